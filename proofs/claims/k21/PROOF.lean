import PyProof.Rows.All
import Wide.All
import OpenK.AllK
import Wide.FinOn
import Lean
import PyProof.EqAt
import PyProof.EqKinds
import PyProof.TupleCall
import PyProof.NeKinds
import PyProof.Rows.SumAny
import PyProof.StrBlockL
import PyProof.StrBlockI
import PyProof.FitsReplace
import PyProof.Rows.SeqMore
import PyProof.Rows.TupAdd
import PyProof.Draws
import PyProof.ZipIter
import PyProof.ListNew
import PyProof.Rows.SortStr
import PyProof.Rows.SortWalk
import PyProof.IsRules
import KE.KDictLaws
import PyProof.DictWalks
import PyProof.WalkInts
import PyProof.DictItems
import PyProof.Rows.DictItemsRows
import KE.KPairComp
import PyProof.Rows.SortShellK
import PyProof.Rows.SortKeyStr
import PyProof.Rows.BitMore
import OpenK.ZGo
import PySem.Challenge.RW_slicewise_k21_names_put_about
set_option Elab.async false
set_option linter.all false
set_option maxRecDepth 100000
set_option maxHeartbeats 8000000
namespace L2
open PySem PySem.Spec PyProof.Rows
noncomputable abbrev Key:=Sum Int Str
noncomputable def keyIs:Key→Value→Bool
 | .inl k,v=>Value.isInt k v
 | .inr x,v=>Value.isStrOf x v
noncomputable def keyH (w:World):Key→Int
 | .inl k=>hashInt k
 | .inr x=>hashStr w x
theorem keyIs_shape:∀ {k:Key} {v:Value},keyIs k v=true→(∃ i t,k=Sum.inl i∧v=Value.int i t)∨(∃ x t,k=Sum.inr x∧v=Value.str x t)
 | .inl i,v,h=>by
   obtain ⟨t,e⟩:=Value.isInt_shape (k:=i) (v:=v) h
   exact .inl ⟨i,t,rfl,e⟩
 | .inr x,v,h=>by
   obtain ⟨t,e⟩:=Value.isStrOf_shape (x:=x) (v:=v) h
   exact .inr ⟨x,t,rfl,e⟩
theorem keyIs_int (i:Int) (t:Tok):keyIs (.inl i) (.int i t)=true:=by simp [keyIs,Value.isInt]
theorem keyIs_str (x:Str) (t:Tok):keyIs (.inr x) (.str x t)=true:=by simp [keyIs,Value.isStrOf]
theorem key_ll (a b:Int):decide ((Sum.inl a:Key)=Sum.inl b)=(a == b):=by
 by_cases e:a=b
 · subst e; simp
 · have h:¬ (Sum.inl a:Key)=Sum.inl b:=fun q=>e (Sum.inl.inj q)
   rw [decide_eq_false h]
   exact (beq_eq_false_iff_ne.mpr e).symm
theorem key_rr (a b:Str):decide ((Sum.inr a:Key)=Sum.inr b)=decide (a=b):=by
 by_cases e:a=b
 · subst e; simp
 · have h:¬ (Sum.inr a:Key)=Sum.inr b:=fun q=>e (Sum.inr.inj q)
   rw [decide_eq_false h,decide_eq_false e]
theorem key_lr (a:Int) (b:Str):decide ((Sum.inl a:Key)=Sum.inr b)=false:=decide_eq_false (fun q=>nomatch q)
theorem key_rl (a:Str) (b:Int):decide ((Sum.inr a:Key)=Sum.inl b)=false:=decide_eq_false (fun q=>nomatch q)
noncomputable def mixKind (prog:Program) (w:World):PySem.KeyKind prog w Key where
 is:=keyIs
 hash:=keyH w
 inj:=fun v a b ha hb=>by
  rcases keyIs_shape ha with ⟨i,t,rfl,rfl⟩ | ⟨x,t,rfl,rfl⟩
  · rcases keyIs_shape hb with ⟨j,u,rfl,e⟩ | ⟨y,u,rfl,e⟩
    · injection e with e1 _; rw [e1]
    · exact nomatch e
  · rcases keyIs_shape hb with ⟨j,u,rfl,e⟩ | ⟨y,u,rfl,e⟩
    · exact nomatch e
    · injection e with e1 _; rw [e1]
 byValue:=fun k v h=>by
  rcases keyIs_shape h with ⟨i,t,rfl,rfl⟩ | ⟨x,t,rfl,rfl⟩ <;> rfl
 pyHash:=fun hv h=>by
  rcases keyIs_shape hv with ⟨i,t,rfl,rfl⟩ | ⟨x,t,rfl,rfl⟩
  · exact wpAny_pyHash_int h
  · exact wpAny_pyHash_str h
 eqBool:=fun hu hv h=>by
  rcases keyIs_shape hu with ⟨i,t,rfl,rfl⟩ | ⟨x,t,rfl,rfl⟩
  · rcases keyIs_shape hv with ⟨j,u,rfl,rfl⟩ | ⟨y,u,rfl,rfl⟩
    · rw [key_ll] at h; exact wpAny_eqBool_int h
    · rw [key_lr] at h; exact SeqAt.EqAt.int_str i t y u _ _ _ _ h
  · rcases keyIs_shape hv with ⟨j,u,rfl,rfl⟩ | ⟨y,u,rfl,rfl⟩
    · rw [key_rl] at h; exact SeqAt.EqAt.str_int x t j u _ _ _ _ h
    · rw [key_rr] at h; exact wpAny_eqBool_str h
 «strs»:=fun k x t v h=>by
  rcases keyIs_shape h with ⟨i,u,rfl,e⟩ | ⟨y,u,rfl,e⟩
  · exact nomatch e
  · injection e with e1 _
    subst e1
    cases v <;> rfl
theorem mixKind_int (prog:Program) (w:World) (i:Int) (t:Tok):(mixKind prog w).is (.inl i) (.int i t)=true:=keyIs_int i t
theorem mixKind_str (prog:Program) (w:World) (x:Str) (t:Tok):(mixKind prog w).is (.inr x) (.str x t)=true:=keyIs_str x t
end L2
namespace L2
open PySem PySem.Spec PyProof.Rows
inductive V where
 | non | bl (b:Bool) | int (i:Int) | str (x:Str) | byt (b:Array UInt8) | flt (b:UInt64) | ref (a:Addr) | ty (n:String)
 deriving DecidableEq
noncomputable def RelV:V→Value→Prop
 | .non,u=>u=Value.none
 | .bl b,u=>u=Value.bool b
 | .int i,u=>∃ t,u=Value.int i t
 | .str x,u=>∃ t,u=Value.str x t
 | .byt b,u=>∃ t,u=Value.bytes b t
 | .flt b,u=>∃ t,u=Value.float b t
 | .ref a,u=>u=Value.ref a
 | .ty n,u=>u=Value.type n
noncomputable abbrev Vals:List V→List Value→Prop:=Paired RelV
theorem Vals.length {xs:List V} {us:List Value} (r:Vals xs us):xs.length=us.length:=Paired.length r
theorem Vals.get:∀ {xs:List V} {us:List Value} {i:Nat} {x:V},Vals xs us→xs[i]?=some x→∃ u,us[i]?=some u∧RelV x u
 | _,_,_,_,.nil,e=>by simp at e
 | _,_,0,_,.cons r _,e=>by simp at e; subst e; exact ⟨_,rfl,r⟩
 | _,_,i+1,x,.cons _ t,e=>by
   obtain ⟨u,h1,h2⟩:=Vals.get (i:=i) (x:=x) t (by simpa using e)
   exact ⟨u,by simpa using h1,h2⟩
theorem Vals.set {x:V} {u:Value} (r:RelV x u):∀ {xs:List V} {us:List Value} (i:Nat),Vals xs us→Vals (xs.set i x) (us.set i u)
 | _,_,_,.nil=>.nil
 | _,_,0,.cons _ t=>.cons r t
 | _,_,i+1,.cons q t=>.cons q (Vals.set r i t)
theorem Vals.append:∀ {xs ys:List V} {us ws:List Value},Vals xs us→Vals ys ws→Vals (xs ++ ys) (us ++ ws)
 | _,_,_,_,.nil,s=>s
 | _,_,_,_,.cons r t,s=>.cons r (Vals.append t s)
theorem Vals.take:∀ {xs:List V} {us:List Value} (n:Nat),Vals xs us→Vals (xs.take n) (us.take n)
 | _,_,0,_=>.nil
 | _,_,_+1,.nil=>.nil
 | _,_,n+1,.cons r t=>.cons r (Vals.take n t)
theorem Vals.drop:∀ {xs:List V} {us:List Value} (n:Nat),Vals xs us→Vals (xs.drop n) (us.drop n)
 | _,_,0,r=>r
 | _,_,_+1,.nil=>.nil
 | _,_,n+1,.cons _ t=>Vals.drop n t
noncomputable def RelO:Option V→Option Value→Prop
 | some v,some u=>RelV v u
 | none,none=>True
 | _,_=>False
noncomputable def KV {κ:Type}:List (κ×V)→List (κ×Value)→Prop:=Paired fun (p:κ×V) (q:κ×Value)=>p.1=q.1∧RelV p.2 q.2
noncomputable def kV:Key→V
 | .inl i=>.int i
 | .inr x=>.str x
inductive HO where
 | lst (xs:List V)
 | tup (xs:List V)
 | dK (kvs:List (Key×V)) | dT (kvs:List (List Key×V))
 | set (S:Int→Bool) (n:Nat)
 | ins (C dx:Addr) (fs:List (Str×V))
 | own (x:Addr)
 | xd (fs:List (Str×V))
 | met (f x:Addr)
 | rng (lo hi:Int)
 | frz (o:Obj) (u:HO)
 | tbl (ps:Array Value)
 | ext (φ:Heap→Prop)
noncomputable abbrev Hp:=Addr→Option HO
noncomputable def upd (H:Hp) (a:Addr) (o:HO):Hp:=fun b=>if b=a then some o else H b
theorem upd_same {H:Hp} {a:Addr} {o:HO}:upd H a o a=some o:=by unfold upd; rw [if_pos rfl]
theorem upd_ne {H:Hp} {a b:Addr} {o:HO} (h:b≠a):upd H a o b=H b:=by unfold upd; rw [if_neg h]
theorem ne_of {H:Hp} {a b:Addr} {o u:HO} (h:H a=some o) (h':H b=some u) (d:o≠u):a≠b:=by
 intro e; subst e; rw [h] at h'; exact d (Option.some.inj h')
theorem ne_of_none {H:Hp} {a b:Addr} {o:HO} (h:H a=some o) (h':H b=none):a≠b:=by
 intro e; subst e; rw [h] at h'; cases h'
section
variable (P:Program) (w:World)
noncomputable def ObjOk (H:Hp) (h:Heap) (a:Addr):HO→Prop
 | .lst xs=>xs.length≤sizeLine∧∃ (its:List Value) (n:Nat),Vals xs its∧h.get? a=some { cls:=.type "list",data:=.seq its.toArray n }
 | .tup xs=>xs.length≤sizeLine∧∃ its:List Value,Vals xs its∧IsTup h a its.toArray
 | .dK kvs=>kvs.length≤sizeLine∧(a == sysModules)=false∧∃ vs,KV kvs vs∧h.DictOf (mixKind P w) a vs
 | .dT kvs=>kvs.length≤sizeLine∧(a == sysModules)=false∧∃ xs:List (List Key×Addr×Value),
    Paired (fun (p:List Key×V) (q:List Key×Addr×Value)=>p.1=q.1∧H q.2.1=some (.tup (p.1.map kV))∧RelV p.2 q.2.2) kvs xs ∧
    ∃ o es ep,h.get? a=some o∧o.ExactDict∧o.data = .dict es ep∧es.toList=xs.map (entryOfKey (tupleKind (mixKind P w)))∧(xs.map (·.1)).Nodup
 | .set S n=>h.SetOf (intKind P w) a S n
 | .ins C dx fs=>H dx=some (.own a)∧fs.length≤1000∧dx≠a∧h.get? a=some (PySem.W.instObj C dx) ∧
    ∃ mA,h.Ns1 dx mA∧(∀ f,RelO (fs.lookup f) (mA f))∧PySem.Within mA (fs.map (·.1))
 | .own _=>∃ o,h.get? a=some o
 | .xd fs=>∃ mA,h.Ns1 a mA∧∀ f,RelO (fs.lookup f) (mA f)
 | .rng lo hi=>∃ t u v,h.get? a=some { cls:=.type "range",data:=.fields #[.int lo t,.int hi u,.int 1 v] }
 | .frz o u=>h.get? a=some o∧ObjOk H h a u
 | .tbl ps=>h.get? a=some { cls:=.none,data:=.fields ps }
 | .met f x=>h.get? a=some (PySem.W.methodObj (.ref f) (.ref x))
 | .ext φ=>φ h∧(∃ o,h.get? a=some o)∧∀ h1 h2:Heap,φ h1→(∀ o,h1.get? a=some o→h2.get? a=some o)→φ h2
noncomputable def HOk (H:Hp) (h:Heap):Prop:=∀ a o,H a=some o→ObjOk P w H h a o
end
section
variable {P:Program} {w:World} {H H':Hp} {h h':Heap} {a:Addr} {o:HO}
theorem ObjOk.lt (x:ObjOk P w H h a o):a < h.objs.size:=by
 cases o with
 | lst xs=>obtain ⟨_,_,_,_,e⟩:=x; exact Heap.lt_size e
 | tup xs=>obtain ⟨_,_,_,p⟩:=x; exact p.lt
 | dK kvs=>obtain ⟨_,_,_,_,o,_,_,e,_⟩:=x; exact Heap.lt_size e
 | dT kvs=>obtain ⟨_,_,_,_,o,_,_,e,_⟩:=x; exact Heap.lt_size e
 | set S n=>obtain ⟨o,_,_,_,e,_⟩:=x; exact Heap.lt_size e
 | ins C dx fs=>obtain ⟨_,_,_,e,_⟩:=x; exact Heap.lt_size e
 | own y=>obtain ⟨_,e⟩:=x; exact Heap.lt_size e
 | xd fs=>obtain ⟨_,⟨_,_,_,e,_⟩,_⟩:=x; exact Heap.lt_size e
 | rng lo hi=>obtain ⟨_,_,_,e⟩:=x; exact Heap.lt_size e
 | frz ob u=>obtain ⟨e,_⟩:=x; exact Heap.lt_size e
 | tbl ps=>exact Heap.lt_size (show h.get? a=some _ from x)
 | met f y=>exact Heap.lt_size (show h.get? a=some _ from x)
 | ext φ=>obtain ⟨_,⟨_,e⟩,_⟩:=x; exact Heap.lt_size e
theorem Paired.mapP {α β:Type} {F G:α→β→Prop}:∀ {l₁:List α} {l₂:List β},Paired F l₁ l₂→(∀ a b,F a b→G a b)→Paired G l₁ l₂
 | _,_,.nil,_=>.nil
 | _,_,.cons r t,f=>.cons (f _ _ r) (Paired.mapP t f)
theorem ObjOk.stay (x:ObjOk P w H h a o) (k:∀ b u,(b=a∨H b=some (.own a))→h.get? b=some u→h'.get? b=some u)
  (ho:∀ b,H b=some (.own a)→H' b=some (.own a)) (ht:∀ b xs,H b=some (.tup xs)→H' b=some (.tup xs)):ObjOk P w H' h' a o:=by
 induction o with
 | lst xs=>obtain ⟨z,its,n,r,e⟩:=x; exact ⟨z,its,n,r,k _ _ (.inl rfl) e⟩
 | tup xs=>obtain ⟨z,its,r,ob,e,c⟩:=x; exact ⟨z,its,r,ob,k _ _ (.inl rfl) e,c⟩
 | dK kvs=>obtain ⟨z,y,vs,r,ob,es,ep,e,c⟩:=x; exact ⟨z,y,vs,r,ob,es,ep,k _ _ (.inl rfl) e,c⟩
 | dT kvs =>
   obtain ⟨z,y,xs,r,ob,es,ep,e,c⟩:=x
   exact ⟨z,y,xs,Paired.mapP r fun p q z=>⟨z.1,ht _ _ z.2.1,z.2.2⟩,ob,es,ep,k _ _ (.inl rfl) e,c⟩
 | set S n=>obtain ⟨ob,es,ep,t,e,c⟩:=x; exact ⟨ob,es,ep,t,k _ _ (.inl rfl) e,c⟩
 | ins C dx fs =>
   obtain ⟨d,z,ne,e,mA,⟨od,es,ep,e2,c⟩,r⟩:=x
   exact ⟨ho _ d,z,ne,k _ _ (.inl rfl) e,mA,⟨od,es,ep,k _ _ (.inr d) e2,c⟩,r⟩
 | own y=>obtain ⟨ob,e⟩:=x; exact ⟨ob,k _ _ (.inl rfl) e⟩
 | xd fs=>obtain ⟨mA,⟨od,es,ep,e,c⟩,r⟩:=x; exact ⟨mA,⟨od,es,ep,k _ _ (.inl rfl) e,c⟩,r⟩
 | rng lo hi=>obtain ⟨t,u,v,e⟩:=x; exact ⟨t,u,v,k _ _ (.inl rfl) e⟩
 | frz ob u ih=>obtain ⟨e,q⟩:=x; exact ⟨k _ _ (.inl rfl) e,ih q⟩
 | tbl ps =>
   have e:h.get? a=some { cls:=.none,data:=.fields ps }:=x
   show h'.get? a=some { cls:=.none,data:=.fields ps }
   exact k a _ (.inl rfl) e
 | met f y =>
   have e:h.get? a=some (PySem.W.methodObj (.ref f) (.ref y)):=x
   show h'.get? a=some (PySem.W.methodObj (.ref f) (.ref y))
   exact k a _ (.inl rfl) e
 | ext φ=>obtain ⟨p,⟨o,e⟩,st⟩:=x; exact ⟨st _ _ p fun o q=>k _ _ (.inl rfl) q,⟨o,k _ _ (.inl rfl) e⟩,st⟩
theorem HOk.lt (x:HOk P w H h) (e:H a=some o):a < h.objs.size:=(x a o e).lt
theorem HOk.fresh (x:HOk P w H h) (e:h.objs.size≤a):H a=none:=by
 cases q:H a with
 | none=>rfl
 | some u=>exact absurd (Nat.lt_of_lt_of_le (x.lt q) e) (Nat.lt_irrefl _)
theorem HOk.kept (x:HOk P w H h) (k:∀ b u,h.get? b=some u→h'.get? b=some u):HOk P w H h':=fun a o e =>
 (x a o e).stay (fun b u _ q=>k b u q) (fun _ q=>q) fun _ _ q=>q
theorem HOk.laid (x:HOk P w H h) (k:∀ b u,h.get? b=some u→h'.get? b=some u) (hp:h.objs.size≤a) (new:ObjOk P w (upd H a o) h' a o):HOk P w (upd H a o) h':=fun b u e=>by
 have hn:=x.fresh hp
 by_cases hb:b=a
 · subst hb; rw [upd_same] at e; cases e; exact new
 · rw [upd_ne hb] at e
   exact (x b u e).stay (fun c v _ q=>k c v q) (fun c q=>by rw [upd_ne (ne_of_none q hn)]; exact q) fun c xs q=>by rw [upd_ne (ne_of_none q hn)]; exact q
end
noncomputable def Rd (H:Hp) (a:Addr) (u:HO):Prop:=H a=some u∨∃ o,H a=some (.frz o u)
theorem Rd.ok {P:Program} {w:World} {H:Hp} {h:Heap} {a:Addr} {u:HO} (r:Rd H a u) (x:HOk P w H h):ObjOk P w H h a u:=by
 rcases r with r | ⟨o,r⟩
 · exact x a u r
 · obtain ⟨_,q⟩:=x a _ r
   exact q
noncomputable def Mut:Option HO→Prop
 | some (.lst _)=>True
 | some (.dK _)=>True
 | some (.dT _)=>True
 | some (.set _ _)=>True
 | some (.ins _ _ _)=>True
 | some (.ext _)=>True
 | _=>False
section
variable {P:Program} {w:World} {H:Hp} {h h':Heap} {x e:Addr} {o':HO}
theorem HOk.write (ok:HOk P w H h) (mu:Mut (H x)) (he:e=x∨H e=some (.own x)) (k:∀ b u,b≠e→h.get? b=some u→h'.get? b=some u) (heo:∃ u,h'.get? e=some u)
  (new:ObjOk P w (upd H x o') h' x o'):HOk P w (upd H x o') h':=fun b u q=>by
 have nown:∀ c y,H c=some (.own y)→c≠x:=fun c y r z=>by subst z; rw [r] at mu; exact mu
 have ntup:∀ c xs,H c=some (.tup xs)→c≠x:=fun c xs r z=>by subst z; rw [r] at mu; exact mu
 by_cases hb:b=x
 · subst hb; rw [upd_same] at q; cases q; exact new
 · rw [upd_ne hb] at q
   by_cases hbe:b=e
   · have q':H b=some (.own x):=by
      rcases he with z | z
      · exact absurd (hbe.trans z) hb
      · rw [hbe]; exact z
     rw [q] at q'; cases q'
     obtain ⟨v,hv⟩:=heo
     exact ⟨v,by rw [hbe]; exact hv⟩
   · refine (ok b u q).stay (fun c v hc r=>k c v ?_ r) (fun c r=>by rw [upd_ne (nown c b r)]; exact r) fun c xs r=>by rw [upd_ne (ntup c xs r)]; exact r
     rcases hc with rfl | hc
     · exact hbe
     · rintro rfl
       rcases he with z | z
       · exact nown c b hc z
       · rw [hc] at z; cases z; exact hb rfl
end
structure Un (fs ex:List Addr) (H H':Hp) (h h':Heap):Prop where
 keep:∀ b o,h.get? b=some o→H b=none→b∉fs→b∉ex→h'.get? b=some o
 slot:∀ b o,h.get? b=some o→H b=none→b∈fs→b∉ex→∃ sl,h'.get? b=some { o with slots:=sl }
 free:∀ b o,h.get? b=some o→H b=none→b∉ex→H' b=none
 there:∀ b o,h.get? b=some o→b∉ex→∃ o',h'.get? b=some o'
 tups:∀ b xs,H b=some (.tup xs)→H' b=some (.tup xs)
 frzs:∀ b o u,H b=some (.frz o u)→H' b=some (.frz o u)
 tbls:∀ b ps,H b=some (.tbl ps)→∃ more,H' b=some (.tbl (ps ++ more))
section
variable {fs fs' ex ex':List Addr} {H H1 H2:Hp} {h h1 h2 h':Heap} {a x e:Addr} {o:HO}
theorem Un.any (u:Un fs ex H H1 h h1) {b:Addr} {ob:Obj} (q:h.get? b=some ob) (n:H b=none) (hx:b∉ex):∃ sl,h1.get? b=some { ob with slots:=sl }:=by
 by_cases hb:b∈fs
 · exact u.slot b ob q n hb hx
 · exact ⟨ob.slots,u.keep b ob q n hb hx⟩
theorem Un.kept (k:∀ b u,h.get? b=some u→h'.get? b=some u):Un fs ex H H h h' :=
 ⟨fun b ob q _ _ _=>k b ob q,fun b ob q _ _ _=>⟨ob.slots,k b ob q⟩,fun _ _ _ n _=>n,fun b ob q _=>⟨ob,k b ob q⟩,fun _ _ q=>q,fun _ _ _ q=>q,fun _ ps q=>⟨#[],by rw [q]; simp⟩⟩
theorem Un.refl:Un fs ex H H h h:=Un.kept fun _ _ q=>q
theorem Un.laid (k:∀ b u,h.get? b=some u→h'.get? b=some u) (hp:h.objs.size≤a) (hn:H a=none):Un fs ex H (upd H a o) h h' where
 keep:=fun b u q _ _ _=>k b u q
 slot:=fun b u q _ _ _=>⟨u.slots,k b u q⟩
 free:=fun b u q n _=>by rw [upd_ne (Nat.ne_of_lt (Nat.lt_of_lt_of_le (Heap.lt_size q) hp))]; exact n
 there:=fun b u q _=>⟨u,k b u q⟩
 tups:=fun b xs q=>by rw [upd_ne (ne_of_none q hn)]; exact q
 frzs:=fun b u xs q=>by rw [upd_ne (ne_of_none q hn)]; exact q
 tbls:=fun b ps q=>⟨#[],by rw [upd_ne (ne_of_none q hn),q]; simp⟩
theorem Un.write (mu:Mut (H x)) (he:e=x∨H e=some (.own x)) (k:∀ b u,b≠e→h.get? b=some u→h'.get? b=some u) (heo:∃ u,h'.get? e=some u):Un fs ex H (upd H x o) h h':=by
 have hx:∀ b,H b=none→b≠x:=fun b n z=>by subst z; rw [n] at mu; exact mu
 have hb:∀ b,H b=none→b≠e:=fun b n z=>by
  subst z
  rcases he with r | r
  · exact hx b n r
  · rw [n] at r; cases r
 have hm:∀ b u,H b=some u→¬ Mut (some u)→b≠x:=fun b u q nm z=>by subst z; rw [q] at mu; exact nm mu
 refine ⟨fun b u q n _ _=>k b u (hb b n) q,fun b u q n _ _=>⟨u.slots,k b u (hb b n) q⟩,fun b u q n _=>by rw [upd_ne (hx b n)]; exact n,fun b u q _=>?_,
  fun b xs q=>by rw [upd_ne (hm b _ q fun z=>z)]; exact q,fun b u xs q=>by rw [upd_ne (hm b _ q fun z=>z)]; exact q,fun b ps q=>⟨#[],by rw [upd_ne (hm b _ q fun z=>z),q]; simp⟩⟩
 by_cases hbe:b=e
 · subst hbe; exact heo
 · exact ⟨u,k b u hbe q⟩
end
noncomputable def trk (h:Heap) (H:Hp):List Addr:=(List.range h.objs.size).filter fun a=>(H a).isSome
noncomputable def hidT (h:Heap) (H:Hp):Heap:=PySem.W.hideAll h (trk h H)
theorem hidT_size (h:Heap) (H:Hp):(hidT h H).objs.size=h.objs.size:=PySem.W.hideAll_size _ _
theorem hidT_get {h:Heap} {H:Hp} {b:Addr} {o:Obj} (e:h.get? b=some o) (n:H b=none):(hidT h H).get? b=some o :=
 PySem.W.hideAll_get _ e fun hm=>by
  have q:(H b).isSome=true:=(List.mem_filter.mp hm).2
  rw [n] at q; simp at q
theorem of_hidT {h:Heap} {H:Hp} {b:Addr} {o:Obj} (e:(hidT h H).get? b=some o):h.get? b=some o∧H b=none:=by
 have e':h.get? b=some o:=PySem.W.of_hideAll (trk h H) e
 refine ⟨e',?_⟩
 cases q:H b with
 | none=>rfl
 | some x =>
   have hm:b∈trk h H:=List.mem_filter.mpr ⟨List.mem_range.mpr (Heap.lt_size e'),by simp [q]⟩
   have z:(hidT h H).get? b=none:=PySem.W.hideAll_none (trk h H) hm
   rw [z] at e; cases e
noncomputable def allNews (g h:Heap) (L:Addr):List (Addr×Obj):=(List.range h.objs.size).filterMap fun a=>if a=L∨(g.get? a).isSome=true then none else (h.get? a).map fun o=>(a,o)
noncomputable def rest (g h:Heap) (L d:Addr):List (Addr×Obj):=(allNews g h L).filter fun p=>decide (p.1≠d)
end L2
namespace L2
open PySem PySem.Spec PyProof.Rows
structure Mod (K:PySem.W.Frag) (mg:Str→Option Value) (base:Heap):Prop where
 kin:K.In base
 glob:base.Ns mainGlobals mg
 blt:∃ mb,base.Ns builtinsNs mb∧∀ x:Str,x≠"__name__"→mb x=bootBuiltins x
 nolimit:base.NoLimit
structure Cx where
 prog:Program
 w:World
 K:PySem.W.Frag
 mg:Str→Option Value
 base:Heap
 A:Around
 N:List Str
 s₀:Shared
 H₀:Hp
 env:Env
 outer:List Env
 stack:List Env
 ex:List Addr
 fn:Str→Bool
 calm:Bool
 pn:List (Addr×Obj)
 xe:Value→Shared→Prop
noncomputable def frs (l:List Env):List Addr:=l.filterMap (·.frame)
noncomputable abbrev Cx.fs (X:Cx):List Addr:=frs X.outer
noncomputable def Vis (sc:Scope) (x:Str):Prop:=sc.names.lookup x=some .local∨sc.names.lookup x=some .cell∨sc.names.lookup x=some .free
noncomputable def Loc (sc:Scope) (x:Str):Prop:=sc.names.lookup x=some .local∨sc.names.lookup x=some .cell
noncomputable def Look (env:Env) (h:Heap) (m:Str→Option Value) (x:Str) (u:Value):Prop :=
 (env.kindOf x=some .local∧m x=some u)∨((env.kindOf x=some .cell∨env.kindOf x=some .free)∧∃ c,env.cells.lookup x=some c∧h.IsCell c (some u))
structure Cx.Ok (X:Cx):Prop where
 mod:Mod X.K X.mg X.base
 kind:X.env.scope.kind = .function
 glob:X.env.globals=mainGlobals
 blt:X.env.builtins=builtinsNs
 above:X.s₀.heap.objs.size≤X.env.locals
 inj:∀ x y c,X.env.cells.lookup x=some c→X.env.cells.lookup y=some c→x=y
 has:∀ x,(X.env.kindOf x=some .cell∨X.env.kindOf x=some .free)→∃ c,X.env.cells.lookup x=some c
 cab:∀ x c,X.fn x=true→X.env.cells.lookup x=some c→X.s₀.heap.objs.size≤c
 hd:X.calm=true→X.A.handled=none
 frames:X.A.frames=some X.stack
 stk:X.stack=X.outer∨(X.stack=X.env :: X.outer∧X.env.frame=some X.env.locals)
 exf:∀ b∈X.ex,b≠X.env.locals∧∀ x c,X.env.cells.lookup x=some c→c≠b
 bs:∀ b o,X.base.get? b=some o→X.s₀.heap.get? b=some o∧X.H₀ b=none
 bsz:X.base.objs.size≤X.s₀.heap.objs.size
 noex:∀ b o,X.base.get? b=some o→b∉X.ex
 exfs:∀ b∈X.ex,b∉X.fs
 funs:X.s₀.heap.FunFrames X.base X.outer
 frf:∀ b∈X.fs,X.H₀ b=none
structure Inv (X:Cx) (pins:List (Addr×Obj)) (σ:List (Option V)) (H:Hp) (s:Shared):Prop where
 ok:X.Ok
 os:s.os=X.s₀.os
 bare:AllBare s.gens
 base:Un X.fs X.ex X.H₀ H X.s₀.heap s.heap
 loc:∃ m,s.heap.Ns X.env.locals m∧∀ (i:Nat) (x:Str) (v:V),X.N[i]?=some x→σ[i]?=some (some v)→Vis X.env.scope x→∃ u,RelV v u∧Look X.env s.heap m x u
 cell:∀ x c,X.env.cells.lookup x=some c→∃ v,s.heap.IsCell c v
 free:H X.env.locals=none
 freeC:∀ x c,X.env.cells.lookup x=some c→H c=none
 pin:∀ p∈X.pn ++ pins,s.heap.get? p.1=some p.2∧H p.1=none∧p.1≠X.env.locals∧p.1∉X.fs∧∀ v,p.2.data≠.cell v
 hok:HOk X.prog X.w H s.heap
 len:σ.length=X.N.length
section
variable {X:Cx} {pins:List (Addr×Obj)} {σ:List (Option V)} {H H':Hp} {s:Shared} {h':Heap}
theorem Cx.Ok.nofr (ok:X.Ok) {b:Addr} {o:Obj} (e:X.base.get? b=some o):b∉X.fs:=fun hb=>by
 have:=(ok.funs.mem hb).1
 rw [e] at this; cases this
theorem Inv.bs (I:Inv X pins σ H s):∀ b o,X.base.get? b=some o→s.heap.get? b=some o∧H b=none:=fun b o e =>
 ⟨I.base.keep b o (I.ok.bs b o e).1 (I.ok.bs b o e).2 (I.ok.nofr e) (I.ok.noex b o e),I.base.free b o (I.ok.bs b o e).1 (I.ok.bs b o e).2 (I.ok.noex b o e)⟩
theorem Inv.bk (I:Inv X pins σ H s):∀ b o,X.base.get? b=some o→s.heap.get? b=some o:=fun b o e=>(I.bs b o e).1
theorem Inv.mod (I:Inv X pins σ H s):Mod X.K X.mg X.base:=I.ok.mod
theorem Inv.kIn (I:Inv X pins σ H s):X.K.In s.heap:=I.ok.mod.kin.keeps I.bk
theorem Inv.fr (I:Inv X pins σ H s):∃ m,Fr X.base X.env.locals s.heap m :=
 let ⟨m,hn,_⟩:=I.loc
 ⟨m,hn,I.bk,Nat.le_trans I.ok.bsz I.ok.above⟩
theorem Inv.lt (I:Inv X pins σ H s):X.env.locals < s.heap.objs.size:=let ⟨_,hn,_⟩:=I.loc; hn.lt
theorem Inv.sz (I:Inv X pins σ H s):X.s₀.heap.objs.size≤s.heap.objs.size:=Nat.le_trans I.ok.above (Nat.le_of_lt I.lt)
theorem Inv.nofs (I:Inv X pins σ H s) {a:Addr} (h:s.heap.objs.size≤a):a∉X.fs:=fun hb=>by
 obtain ⟨_,o,ho,_⟩:=I.ok.funs.mem hb
 exact absurd (Nat.lt_of_lt_of_le (Heap.lt_size ho) (Nat.le_trans I.sz h)) (Nat.lt_irrefl _)
theorem Inv.cne (I:Inv X pins σ H s):∀ x c,X.env.cells.lookup x=some c→c≠X.env.locals:=fun x c e z=>by
 obtain ⟨v,o,ho,hd⟩:=I.cell x c e
 obtain ⟨m,⟨o',es,ep,ho',hd',_⟩,_⟩:=I.loc
 rw [z,ho'] at ho; cases ho; rw [hd'] at hd; cases hd
theorem Inv.funs (I:Inv X pins σ H s):s.heap.FunFrames X.base X.outer:=by
 have all:∀ (l:List Env),(∀ b∈frs l,b∈X.fs)→X.s₀.heap.FunFrames X.base l→s.heap.FunFrames X.base l:=by
  intro l
  induction l with
  | nil=>intro _ _; trivial
  | cons env r ih =>
    intro hs hl
    obtain ⟨hk,⟨L,o,hf,hn,ho,hd⟩,hr⟩:=hl
    have hL:L∈X.fs:=hs L (by unfold frs; rw [List.filterMap_cons,hf]; exact List.mem_cons_self)
    obtain ⟨sl,e⟩:=I.base.slot L o ho (I.ok.frf L hL) hL fun z=>I.ok.exfs L z hL
    exact ⟨hk,⟨L,_,hf,hn,e,hd⟩,ih (fun b hb=>hs b (by unfold frs; rw [List.filterMap_cons,hf]; exact List.mem_cons_of_mem _ hb)) hr⟩
 exact all X.outer (fun _ hb=>hb) I.ok.funs
theorem Inv.stack (I:Inv X pins σ H s):s.heap.FunFrames X.base X.stack:=by
 rcases I.ok.stk with e | ⟨e,hf⟩
 · rw [e]; exact I.funs
 · rw [e]
   obtain ⟨m,hn,_⟩:=I.loc
   refine .cons (by rw [I.ok.kind]; decide) hf hn ?_ I.funs
   exact Heap.get?_none_of_le (Nat.le_trans I.ok.bsz I.ok.above)
theorem Inv.stkSub (I:Inv X pins σ H s):∀ b∈frs X.stack,b∈X.env.locals :: X.fs:=fun b hb=>by
 rcases I.ok.stk with e | ⟨e,hf⟩
 · rw [e] at hb; exact List.mem_cons_of_mem _ hb
 · rw [e] at hb
   unfold frs at hb
   rw [List.filterMap_cons,hf] at hb
   exact hb
theorem Inv.stkFree (I:Inv X pins σ H s):∀ b∈frs X.stack,H b=none:=fun b hb=>by
 rcases List.mem_cons.mp (I.stkSub b hb) with e | hb
 · rw [e]; exact I.free
 · obtain ⟨_,o,ho,_⟩:=I.ok.funs.mem hb
   exact I.base.free b o ho (I.ok.frf b hb) fun z=>I.ok.exfs b z hb
theorem Inv.step {g':Array GenState} {t':Nat} {d':Drawn} {ch:List Addr} (I:Inv X pins σ H s)
  (hch:∀ b∈ch,(b∈X.ex∨X.s₀.heap.objs.size≤b)∧b≠X.env.locals∧(∀ x c,X.env.cells.lookup x=some c→c≠b)∧∀ p∈X.pn ++ pins,p.1≠b)
  (keep:∀ b o,b≠X.env.locals→b∉X.fs→b∉ch→s.heap.get? b=some o→H b=none→h'.get? b=some o)
  (slot:∀ b o,b≠X.env.locals→b∈X.fs→b∉ch→s.heap.get? b=some o→H b=none→∃ sl,h'.get? b=some { o with slots:=sl }) (free:∀ b o,b∉ch→s.heap.get? b=some o→H b=none→H' b=none)
  (there:∀ b o,b∉ch→s.heap.get? b=some o→∃ o',h'.get? b=some o')
  (tups:∀ b xs,H b=some (.tup xs)→H' b=some (.tup xs)) (frzs:∀ b o u,H b=some (.frz o u)→H' b=some (.frz o u)) (tbls:∀ b ps,H b=some (.tbl ps)→∃ more,H' b=some (.tbl (ps ++ more)))
  (ns:∀ m,s.heap.Ns X.env.locals m→h'.Ns X.env.locals m) (hok:HOk X.prog X.w H' h') (hg:AllBare g') :
  Inv X pins σ H' { s with heap:=h',gens:=g',drawn:=d',toks:=t' }:=by
 have neL:∀ b o,X.s₀.heap.get? b=some o→b≠X.env.locals:=fun b o e=>Nat.ne_of_lt (Nat.lt_of_lt_of_le (Heap.lt_size e) I.ok.above)
 have neC:∀ b o,X.s₀.heap.get? b=some o→b∉X.ex→b∉ch:=fun b o e hx hb=>by
  rcases (hch b hb).1 with z | z
  · exact hx z
  · exact absurd (Nat.lt_of_lt_of_le (Heap.lt_size e) z) (Nat.lt_irrefl _)
 have cellK:∀ x c,X.env.cells.lookup x=some c→∀ v,s.heap.IsCell c v→h'.IsCell c v:=fun x c e v ⟨o,ho,hd⟩=>by
  have nch:c∉ch:=fun z=>(hch c z).2.2.1 x c e rfl
  by_cases hc:c∈X.fs
  · obtain ⟨sl,q⟩:=slot c o (I.cne x c e) hc nch ho (I.freeC x c e)
    exact ⟨_,q,hd⟩
  · exact ⟨o,keep c o (I.cne x c e) hc nch ho (I.freeC x c e),hd⟩
 refine ⟨I.ok,I.os,hg,⟨fun b o e n hb hx=>?_,fun b o e n hb hx=>?_,fun b o e n hx=>?_,fun b o e hx=>?_,fun b xs e=>tups b xs (I.base.tups b xs e),fun b o xs e=>frzs b o xs (I.base.frzs b o xs e),fun b ps e=>?_⟩,?_,fun x c e=>?_,?_,fun x c e=>?_,fun p hp=>?_,hok,I.len⟩
 · exact keep b o (neL b o e) hb (neC b o e hx) (I.base.keep b o e n hb hx) (I.base.free b o e n hx)
 · obtain ⟨sl,e1⟩:=I.base.slot b o e n hb hx
   obtain ⟨sl',e2⟩:=slot b _ (neL b o e) hb (neC b o e hx) e1 (I.base.free b o e n hx)
   exact ⟨sl',e2⟩
 · obtain ⟨o',e1⟩:=I.base.there b o e hx
   exact free b o' (neC b o e hx) e1 (I.base.free b o e n hx)
 · obtain ⟨o',e1⟩:=I.base.there b o e hx
   exact there b o' (neC b o e hx) e1
 · obtain ⟨m1,e1⟩:=I.base.tbls b ps e
   obtain ⟨m2,e2⟩:=tbls b _ e1
   exact ⟨m1 ++ m2,by rw [e2,Array.append_assoc]⟩
 · obtain ⟨m,hn,hl⟩:=I.loc
   refine ⟨m,ns m hn,fun i x v e1 e2 e3=>?_⟩
   obtain ⟨u,r,l⟩:=hl i x v e1 e2 e3
   refine ⟨u,r,?_⟩
   rcases l with l | ⟨k,c,e,z⟩
   · exact .inl l
   · exact .inr ⟨k,c,e,cellK x c e _ z⟩
 · obtain ⟨v,z⟩:=I.cell x c e
   exact ⟨v,cellK x c e v z⟩
 · obtain ⟨m,⟨o,_,_,ho,_⟩,_⟩:=I.loc
   exact free _ o (fun z=>(hch _ z).2.1 rfl) ho I.free
 · obtain ⟨v,o,ho,hd⟩:=I.cell x c e
   exact free c o (fun z=>(hch c z).2.2.1 x c e rfl) ho (I.freeC x c e)
 · obtain ⟨e,n,ne,nf,d⟩:=I.pin p hp
   have nch:p.1∉ch:=fun z=>(hch p.1 z).2.2.2 p hp rfl
   exact ⟨keep p.1 p.2 ne nf nch e n,free p.1 p.2 nch e n,ne,nf,d⟩
theorem Inv.un {t':Nat} (I:Inv X pins σ H s) (u:Un X.fs [] H H' s.heap h') (hok:HOk X.prog X.w H' h'):Inv X pins σ H' { s with heap:=h',toks:=t' }:=by
 obtain ⟨m,⟨o,es,ep,ho,r⟩,_⟩:=id I.loc
 obtain ⟨sl,hL⟩:=u.any ho I.free (by simp)
 exact I.step (g':=s.gens) (d':=s.drawn) (ch:=[]) (fun _ z=>nomatch z) (fun b o _ hb _ e n=>u.keep b o e n hb (by simp)) (fun b o _ hb _ e n=>u.slot b o e n hb (by simp)) (fun b o _ e n=>u.free b o e n (by simp)) (fun b o _ e=>u.there b o e (by simp)) u.tups u.frzs u.tbls (fun m' hm=>by
  obtain ⟨o',es',ep',ho',r'⟩:=hm
  rw [ho] at ho'; cases ho'
  exact ⟨_,es',ep',hL,r'⟩) hok I.bare
theorem Inv.call {g':Array GenState} {t':Nat} {d':Drawn} {ch:List Addr} (I:Inv X pins σ H s) (u:Un (frs X.stack) ch H H' s.heap h') (hok:HOk X.prog X.w H' h') (hg:AllBare g')
  (hch:∀ b∈ch,(b∈X.ex∨X.s₀.heap.objs.size≤b)∧b≠X.env.locals∧(∀ x c,X.env.cells.lookup x=some c→c≠b)∧∀ p∈X.pn ++ pins,p.1≠b) :
  Inv X pins σ H' { s with heap:=h',gens:=g',drawn:=d',toks:=t' }:=by
 obtain ⟨m,⟨o,es,ep,ho,r⟩,_⟩:=id I.loc
 obtain ⟨sl,hL⟩:=u.any ho I.free fun z=>(hch _ z).2.1 rfl
 exact I.step (ch:=ch) hch (fun b o hL hb hc e n=>u.keep b o e n (fun z=>(List.mem_cons.mp (I.stkSub b z)).elim hL hb) hc) (fun b o _ _ hc e n=>u.any e n hc) (fun b o hc e n=>u.free b o e n hc) (fun b o hc e=>u.there b o e hc) u.tups u.frzs u.tbls (fun m' hm=>by
  obtain ⟨o',es',ep',ho',r'⟩:=hm
  rw [ho] at ho'; cases ho'
  exact ⟨_,es',ep',hL,r'⟩) hok hg
theorem Inv.turned {t':Nat} {it:Addr} (I:Inv X pins σ H s) (k:∀ b o,b≠it→s.heap.get? b=some o→h'.get? b=some o) (hn:H it=none) (hL:it≠X.env.locals)
  (h1:it∈X.ex∨X.s₀.heap.objs.size≤it) (h2:∀ x c,X.env.cells.lookup x=some c→c≠it) (h3:∀ p∈X.pn ++ pins,p.1≠it):Inv X pins σ H { s with heap:=h',toks:=t' }:=by
 have nit:∀ b u,H b=some u→b≠it:=fun b u e z=>by rw [z,hn] at e; cases e
 refine I.step (g':=s.gens) (d':=s.drawn) (ch:=[it]) (fun b hb=>?_) (fun b o _ _ hc e _=>k b o (fun z=>hc (by simp [z])) e) (fun b o _ _ hc e _=>⟨o.slots,k b o (fun z=>hc (by simp [z])) e⟩) (fun _ _ _ _ n=>n)
  (fun b o hc e=>⟨o,k b o (fun z=>hc (by simp [z])) e⟩) (fun _ _ e=>e) (fun _ _ _ e=>e) (fun b ps e=>⟨#[],by rw [e]; simp⟩) (fun m hm=>?_) (fun b u e=>?_) I.bare
 · have e:b=it:=by simpa using hb
   subst e
   exact ⟨h1,hL,h2,h3⟩
 · obtain ⟨o,es,ep,ho,r⟩:=hm
   exact ⟨o,es,ep,k _ o (Ne.symm hL) ho,r⟩
 · refine (I.hok b u e).stay (fun c v hc q=>k c v ?_ q) (fun _ q=>q) fun _ _ q=>q
   rcases hc with z | z
   · rw [z]; exact nit b u e
   · exact nit c _ z
theorem Inv.tok (I:Inv X pins σ H s) (t:Nat):Inv X pins σ H { s with toks:=t }:=I.un (h':=s.heap) (t':=t) Un.refl I.hok
theorem Inv.kept {t':Nat} (I:Inv X pins σ H s) (k:∀ b u,s.heap.get? b=some u→h'.get? b=some u):Inv X pins σ H { s with heap:=h',toks:=t' }:=I.un (Un.kept k) (I.hok.kept k)
theorem Inv.laid {a:Addr} {o:HO} {t':Nat} (I:Inv X pins σ H s) (k:∀ b u,s.heap.get? b=some u→h'.get? b=some u) (hp:s.heap.objs.size≤a) (new:ObjOk X.prog X.w (upd H a o) h' a o) :
 Inv X pins σ (upd H a o) { s with heap:=h',toks:=t' }:=I.un (Un.laid k hp (I.hok.fresh hp)) (I.hok.laid k hp new)
theorem Inv.write {x e:Addr} {o:HO} {t':Nat} (I:Inv X pins σ H s) (mu:Mut (H x)) (he:e=x∨H e=some (.own x)) (k:∀ b u,b≠e→s.heap.get? b=some u→h'.get? b=some u) (heo:∃ u,h'.get? e=some u)
 (new:ObjOk X.prog X.w (upd H x o) h' x o):Inv X pins σ (upd H x o) { s with heap:=h',toks:=t' }:=I.un (Un.write mu he k heo) (I.hok.write mu he k heo new)
theorem Inv.weak {σ':List (Option V)} (I:Inv X pins σ H s) (hl:σ'.length=σ.length) (w:∀ (i:Nat) v,σ'[i]?=some (some v)→σ[i]?=some (some v)):Inv X pins σ' H s :=
 ⟨I.ok,I.os,I.bare,I.base,let ⟨m,hn,hl'⟩:=I.loc; ⟨m,hn,fun i x v e1 e2 e3=>hl' i x v e1 (w i v e2) e3⟩,I.cell,I.free,I.freeC,I.pin,I.hok,hl.trans I.len⟩
theorem Inv.pins_of {pins':List (Addr×Obj)} (I:Inv X pins σ H s) (h:∀ p∈pins',s.heap.get? p.1=some p.2∧H p.1=none∧p.1≠X.env.locals∧p.1∉X.fs∧∀ v,p.2.data≠.cell v):Inv X pins' σ H s :=
 ⟨I.ok,I.os,I.bare,I.base,I.loc,I.cell,I.free,I.freeC,fun p hp=>(List.mem_append.mp hp).elim (fun z=>I.pin p (List.mem_append_left _ z)) (h p),I.hok,I.len⟩
theorem nodup_ix {N:List Str} (hN:N.Nodup) {i j:Nat} {x:Str} (a:N[i]?=some x) (b:N[j]?=some x):i=j:=by
 obtain ⟨h1,e1⟩:=List.getElem?_eq_some_iff.mp a
 obtain ⟨h2,e2⟩:=List.getElem?_eq_some_iff.mp b
 exact (List.getElem_inj hN).mp (e1.trans e2.symm)
theorem store_ok2 {M:Model} {A:Around} {E:Value→Shared→Prop} {i:Nat} {x:Str} {v:V} {u:Value} {Q:Unit→Shared→Prop} (I:Inv X pins σ H s) (hN:X.N.Nodup) (hi:X.N[i]?=some x) (hx:Loc X.env.scope x) (r:RelV v u)
  (h:∀ s',Inv X pins (σ.set i (some v)) H s'→(∃ a,Heap.SameBut a s.heap s'.heap∧(a=X.env.locals∨X.env.cells.lookup x=some a))→Q () s') (hf:X.fn x=true∨X.env.scope.names.lookup x=some .local:=by first | exact .inl rfl | exact .inr rfl | assumption):wpAny M A (storeName X.env x u) Q E s:=by
 obtain ⟨m,hn,hl⟩:=id I.loc
 have hcls:(X.env.scope.kind == .class || (X.env.scope.kind == .module && X.env.locals != X.env.globals))=false:=by rw [I.ok.kind]; rfl
 have hiσ:i < σ.length:=by rw [I.len]; exact (List.getElem?_eq_some_iff.mp hi).1
 have cne:=I.cne
 have tracked:∀ {a:Addr} {h':Heap},(∃ o,s.heap.get? a=some o∧H a=none)→Heap.SameBut a s.heap h'→HOk X.prog X.w H h':=fun {a h'} ha hs b ob e=>by
  obtain ⟨_,_,hfree⟩:=ha
  refine (I.hok b ob e).stay (fun c w' hc q=>(hs.2 c ?_).trans q) (fun _ q=>q) fun _ _ q=>q
  rintro rfl
  rcases hc with rfl | hc
  · rw [hfree] at e; cases e
  · rw [hfree] at hc; cases hc
 rcases hx with hk | hk
 · refine wpAny_storeName_local hk hn (fun h' hn' hs=>?_) hcls
   obtain ⟨oL,_,_,hoL,_⟩:=id hn
   refine h _ ⟨I.ok,I.os,I.bare,⟨fun b o e n hb hx=>?_,fun b o e n hb hx=>?_,I.base.free,fun b o e hx=>?_,I.base.tups,I.base.frzs,I.base.tbls⟩,⟨_,hn',fun j y v' e1 e2 e3=>?_⟩,fun y c e=>?_,I.free,I.freeC,fun p hp=>?_,tracked ⟨oL,hoL,I.free⟩ hs,by simpa using I.len⟩ ⟨_,hs,.inl rfl⟩
   · exact (hs.2 b (Nat.ne_of_lt (Nat.lt_of_lt_of_le (Heap.lt_size e) I.ok.above))).trans (I.base.keep b o e n hb hx)
   · obtain ⟨sl,e1⟩:=I.base.slot b o e n hb hx
     exact ⟨sl,(hs.2 b (Nat.ne_of_lt (Nat.lt_of_lt_of_le (Heap.lt_size e) I.ok.above))).trans e1⟩
   · obtain ⟨o',e1⟩:=I.base.there b o e hx
     exact ⟨o',(hs.2 b (Nat.ne_of_lt (Nat.lt_of_lt_of_le (Heap.lt_size e) I.ok.above))).trans e1⟩
   · by_cases hj:j=i
     · subst hj
       rw [hi] at e1; cases e1
       rw [List.getElem?_set_self hiσ] at e2
       cases e2
       exact ⟨u,r,.inl ⟨hk,by simp⟩⟩
     · rw [List.getElem?_set_ne (Ne.symm hj)] at e2
       obtain ⟨u',r',q⟩:=hl j y v' e1 e2 e3
       refine ⟨u',r',?_⟩
       rcases q with ⟨k,e⟩ | ⟨k,c,e,z⟩
       · refine .inl ⟨k,?_⟩
         have:y≠x:=fun e=>hj (nodup_ix hN e1 (e▸hi))
         simp [this,e]
       · exact .inr ⟨k,c,e,z.sameBut hs (cne y c e)⟩
   · obtain ⟨w',z⟩:=I.cell y c e
     exact ⟨w',z.sameBut hs (cne y c e)⟩
   · obtain ⟨e,n,ne,nf,d⟩:=I.pin p hp
     exact ⟨(hs.2 p.1 ne).trans e,n,ne,nf,d⟩
 · have hfn:X.fn x=true:=by
    rcases hf with z | z
    · exact z
    · rw [z] at hk; cases hk
   obtain ⟨c,hc⟩:=I.ok.has x (.inl hk)
   obtain ⟨w',z⟩:=I.cell x c hc
   refine wpAny_storeName_cell I.ok.kind hk hc z (fun h' hc' hs=>?_)
   obtain ⟨oc,hoc,hocd⟩:=id z
   refine h { s with heap:=h' } ⟨I.ok,I.os,I.bare,⟨fun b o e n hb hx=>?_,fun b o e n hb hx=>?_,I.base.free,fun b o e hx=>?_,I.base.tups,I.base.frzs,I.base.tbls⟩,⟨m,hn.sameBut hs (Ne.symm (cne x c hc)),fun j y v' e1 e2 e3=>?_⟩,fun y c' e=>?_,I.free,I.freeC,fun p hp=>?_,tracked ⟨oc,hoc,I.freeC x c hc⟩ hs,by simpa using I.len⟩ ⟨c,hs,.inr hc⟩
   · exact (hs.2 b (Nat.ne_of_lt (Nat.lt_of_lt_of_le (Heap.lt_size e) (I.ok.cab x c hfn hc)))).trans (I.base.keep b o e n hb hx)
   · obtain ⟨sl,e1⟩:=I.base.slot b o e n hb hx
     exact ⟨sl,(hs.2 b (Nat.ne_of_lt (Nat.lt_of_lt_of_le (Heap.lt_size e) (I.ok.cab x c hfn hc)))).trans e1⟩
   · obtain ⟨o',e1⟩:=I.base.there b o e hx
     exact ⟨o',(hs.2 b (Nat.ne_of_lt (Nat.lt_of_lt_of_le (Heap.lt_size e) (I.ok.cab x c hfn hc)))).trans e1⟩
   · by_cases hj:j=i
     · subst hj
       rw [hi] at e1; cases e1
       rw [List.getElem?_set_self hiσ] at e2
       cases e2
       exact ⟨u,r,.inr ⟨.inl hk,c,hc,hc'⟩⟩
     · rw [List.getElem?_set_ne (Ne.symm hj)] at e2
       obtain ⟨u',r',q⟩:=hl j y v' e1 e2 e3
       refine ⟨u',r',?_⟩
       rcases q with q | ⟨k,c',e,z'⟩
       · exact .inl q
       · refine .inr ⟨k,c',e,z'.sameBut hs ?_⟩
         rintro rfl
         exact hj (nodup_ix hN e1 (I.ok.inj _ _ _ e hc▸hi))
   · by_cases hcc:c'=c
     · subst hcc; exact ⟨_,hc'⟩
     · obtain ⟨w2,z2⟩:=I.cell y c' e
       exact ⟨w2,z2.sameBut hs hcc⟩
   · obtain ⟨e,n,ne,nf,d⟩:=I.pin p hp
     refine ⟨(hs.2 p.1 ?_).trans e,n,ne,nf,d⟩
     intro q
     rw [q,hoc] at e
     have q':oc=p.2:=Option.some.inj e
     exact d w' (by rw [← q']; exact hocd)
theorem store_ok {M:Model} {A:Around} {E:Value→Shared→Prop} {i:Nat} {x:Str} {v:V} {u:Value} {Q:Unit→Shared→Prop} (I:Inv X pins σ H s) (hN:X.N.Nodup) (hi:X.N[i]?=some x) (hx:Loc X.env.scope x) (r:RelV v u)
  (h:∀ s',Inv X pins (σ.set i (some v)) H s'→Q () s') (hf:X.fn x=true∨X.env.scope.names.lookup x=some .local:=by first | exact .inl rfl | exact .inr rfl | assumption):wpAny M A (storeName X.env x u) Q E s :=
 store_ok2 I hN hi hx r (fun s' I' _=>h s' I') hf
theorem Inv.call' {s':Shared} {ch:List Addr} (I:Inv X pins σ H s) (ho:s'.os=s.os) (u:Un (frs X.stack) ch H H' s.heap s'.heap) (hok:HOk X.prog X.w H' s'.heap) (hg:AllBare s'.gens)
  (hch:∀ b∈ch,(b∈X.ex∨X.s₀.heap.objs.size≤b)∧b≠X.env.locals∧(∀ x c,X.env.cells.lookup x=some c→c≠b)∧∀ p∈X.pn ++ pins,p.1≠b):Inv X pins σ H' s':=by
 obtain ⟨h',g',d',t',o'⟩:=s'
 have e:o'=s.os:=ho
 subst e
 exact I.call (g':=g') (t':=t') (d':=d') u hok hg hch
end
noncomputable abbrev XK:=Value→Option Addr→Hp→Prop
noncomputable abbrev St:=List (Option V)
noncomputable abbrev VK:=V→Hp→Prop
noncomputable abbrev TE:=St→Hp→VK→Prop
noncomputable abbrev TT:=St→Hp→(Bool→Hp→Prop)→Prop
noncomputable abbrev TA:=St→Hp→(List V→Hp→Prop)→Prop
structure Ends where
 nx:St→Hp→Prop
 rt:VK
 bk:St→Hp→Prop:=fun _ _=>False
 ct:St→Hp→Prop:=fun _ _=>False
noncomputable abbrev TS:=Ends→St→Hp→Prop
noncomputable def EP (X:Cx) (pins:List (Addr×Obj)) (σ:St) (Q:VK) (u:Value) (s':Shared):Prop:=∃ v H',Inv X pins σ H' s'∧RelV v u∧Q v H'
noncomputable def TP (X:Cx) (pins:List (Addr×Obj)) (σ:St) (Q:Bool→Hp→Prop) (b:Bool) (s':Shared):Prop:=∃ H',Inv X pins σ H' s'∧Q b H'
noncomputable def AP (X:Cx) (pins:List (Addr×Obj)) (σ:St) (Q:List V→Hp→Prop) (us:List Value) (s':Shared):Prop:=∃ vs H',Inv X pins σ H' s'∧Vals vs us∧Q vs H'
noncomputable def SP (X:Cx) (pins:List (Addr×Obj)) (D:Ends) (f:Flow) (s':Shared):Prop :=
 match f with
 | .next=>∃ σ' H',Inv X pins σ' H' s'∧D.nx σ' H'
 | .brk=>∃ σ' H',Inv X pins σ' H' s'∧D.bk σ' H'
 | .cont=>∃ σ' H',Inv X pins σ' H' s'∧D.ct σ' H'
 | .ret u=>∃ v σ' H',Inv X pins σ' H' s'∧RelV v u∧D.rt v H'
noncomputable def PE (X:Cx) (e:Expr) (t:TE):Prop :=
 ∀ (pins:List (Addr×Obj)) (s:Shared) (σ:St) (H:Hp) (Q:VK),Inv X pins σ H s→t σ H Q→wpAny (model X.prog X.w) X.A (eval e X.env) (EP X pins σ Q) X.xe s
noncomputable def PT (X:Cx) (e:Expr) (t:TT):Prop :=
 ∀ (pins:List (Addr×Obj)) (s:Shared) (σ:St) (H:Hp) (Q:Bool→Hp→Prop),Inv X pins σ H s→t σ H Q→wpAny (model X.prog X.w) X.A (isTrue e X.env (eval e X.env)) (TP X pins σ Q) X.xe s
noncomputable def PW (X:Cx) (e:Expr) (t:TT):Prop :=
 ∀ (whole:Sem Value) (pins:List (Addr×Obj)) (s:Shared) (σ:St) (H:Hp) (Q:Bool→Hp→Prop),Inv X pins σ H s→t σ H Q→wpAny (model X.prog X.w) X.A (isTrue e X.env whole) (TP X pins σ Q) X.xe s
theorem PW.pt {X:Cx} {e:Expr} {t:TT} (h:PW X e t):PT X e t:=h _
noncomputable def PA (X:Cx) (es:List Expr) (t:TA):Prop :=
 ∀ (pos:Pos) (pins:List (Addr×Obj)) (s:Shared) (σ:St) (H:Hp) (Q:List V→Hp→Prop),Inv X pins σ H s→t σ H Q→wpAny (model X.prog X.w) X.A (spliced (backTo pos (starEach es X.env))) (AP X pins σ Q) X.xe s
noncomputable def PS (X:Cx) (st:Stmt) (t:TS):Prop :=
 ∀ (pins:List (Addr×Obj)) (s:Shared) (σ:St) (H:Hp) (D:Ends),Inv X pins σ H s→t D σ H→wpAny (model X.prog X.w) X.A (exec st X.env) (SP X pins D) X.xe s
noncomputable def PSs (X:Cx) (st:List Stmt) (t:TS):Prop :=
 ∀ (pins:List (Addr×Obj)) (s:Shared) (σ:St) (H:Hp) (D:Ends),Inv X pins σ H s→t D σ H→wpAny (model X.prog X.w) X.A (execs st X.env) (SP X pins D) X.xe s
theorem thn {α:Type} {t:Sem α} {Q Q':α→Shared→Prop} {M:Model} {A:Around} {E:Value→Shared→Prop} {s:Shared} (h:wpAny M A t Q E s) (hQ:∀ a s,Q a s→Q' a s):wpAny M A t Q' E s:=wpAny_mono h hQ fun _ _ x=>x
end L2
namespace L2
open PySem PySem.Spec PyProof.Rows
section
variable {X:Cx}
noncomputable def tVar (i:Nat):TE:=fun σ H Q=>∃ v,σ[i]?=some (some v)∧Q v H
noncomputable def tC (v:V):TE:=fun _ H Q=>Q v H
theorem pe_var {i:Nat} {x:Str} {pos:Pos} (hN:X.N[i]?=some x) (hv:Vis X.env.scope x) (hd:(x == ("__debug__" : Str))=false:=by decide) (hcd:(x == ("__classdict__" : Str))=false:=by decide):PE X (.Name x pos) (tVar i):=by
 intro pins s σ H Q I h
 obtain ⟨v,e,h⟩:=h
 obtain ⟨m,hn,hl⟩:=I.loc
 obtain ⟨u,r,l⟩:=hl i x v hN e hv
 have fin:EP X pins σ Q u s:=⟨v,H,I,r,h⟩
 rcases l with ⟨hk,hm⟩ | ⟨hk,c,hc,hcell⟩
 · exact wpAny_Name (wpAny_loadName_local I.ok.kind hk hn hm fin) hd
 · rcases hk with hk | hk
   · exact wpAny_Name (wpAny_loadName_cell I.ok.kind hk hc hcell fin) hd
   · exact wpAny_Name (wpAny_loadName_free I.ok.kind hk hc hcell fin hcd) hd
theorem pe_int {i j pos}:PE X (.Constant (.int i) j pos) (tC (.int i)):=fun _ _ _ H _ I h=>wpAny_Constant_int ⟨.int i,H,I.tok _,⟨_,rfl⟩,h⟩
theorem pe_bl {b j pos}:PE X (.Constant (.bool b) j pos) (tC (.bl b)):=fun _ _ _ H _ I h=>Constant_bool ⟨.bl b,H,I,rfl,h⟩
theorem pe_non {j pos}:PE X (.Constant .none j pos) (tC .non):=fun _ _ _ H _ I h=>Constant_none ⟨.non,H,I,rfl,h⟩
theorem pe_str {x j pos}:PE X (.Constant (.str x) j pos) (tC (.str x)):=fun _ _ _ H _ I h=>Calls.Constant_str ⟨.str x,H,I.tok _,⟨_,rfl⟩,h⟩
noncomputable def Gl (X:Cx) (x:Str):Prop:=X.env.kindOf x=some .globalImplicit
theorem ld_glob {E:Value→Shared→Prop} {pins:List (Addr×Obj)} {s:Shared} {σ:St} {H:Hp} {x:Str} {u:Value} {pos:Pos} {Q:Value→Shared→Prop} (I:Inv X pins σ H s) (hg:Gl X x) (hm:X.mg x=some u) (h:Q u s)
  (hd:(x == ("__debug__" : Str))=false:=by decide):wpAny (model X.prog X.w) X.A (eval (.Name x pos) X.env) Q E s :=
 Calls.Name_function_global I.ok.kind hg (Calls.loadGlobal_global (by rw [I.ok.glob]; exact I.mod.glob.keeps I.bk) hm h) hd
theorem ld_blt {E:Value→Shared→Prop} {pins:List (Addr×Obj)} {s:Shared} {σ:St} {H:Hp} {x:Str} {u:Value} {pos:Pos} {Q:Value→Shared→Prop} (I:Inv X pins σ H s) (hg:Gl X x) (hm:X.mg x=none) (hv:bootBuiltins x=some u) (h:Q u s)
  (hn:x≠"__name__":=by decide) (hd:(x == ("__debug__" : Str))=false:=by decide):wpAny (model X.prog X.w) X.A (eval (.Name x pos) X.env) Q E s:=by
 obtain ⟨mb,h1,h2⟩:=I.mod.blt
 exact Calls.Name_function_global I.ok.kind hg (Calls.loadGlobal_builtin (by rw [I.ok.glob]; exact I.mod.glob.keeps I.bk) hm (by rw [I.ok.blt]; exact h1.keeps I.bk) ((h2 x hn).trans hv) h) hd
theorem pe_glob {x:Str} {v:V} {u:Value} {pos:Pos} (hg:Gl X x) (hm:X.mg x=some u) (r:RelV v u) (hd:(x == ("__debug__" : Str))=false:=by decide):PE X (.Name x pos) (tC v) :=
 fun _ _ _ H _ I h=>ld_glob I hg hm ⟨v,H,I,r,h⟩ hd
theorem pe_bltn {x:Str} {v:V} {u:Value} {pos:Pos} (hg:Gl X x) (hm:X.mg x=none) (hv:bootBuiltins x=some u) (r:RelV v u) (hn:x≠"__name__":=by decide) (hd:(x == ("__debug__" : Str))=false:=by decide):PE X (.Name x pos) (tC v) :=
 fun _ _ _ H _ I h=>ld_blt I hg hm hv ⟨v,H,I,r,h⟩ hn hd
variable {a b:Expr} {ta tb:TE} {pos:Pos}
noncomputable def tB (t:TE):TT:=fun σ H Q=>t σ H fun x H1=>∃ c,x = .bl c∧Q c H1
theorem pt_val {e:Expr} {t:TE} (h:PE X e t) (he:∀ whole,isTrue e X.env whole=(do let v ← whole; standAt e.pos; holding [v] (truthy v)):=by intro _; rfl):PT X e (tB t):=by
 intro pins s σ H Q I hw
 refine isTrue_plain (thn (h pins s σ H _ I hw) fun v s1 ⟨x,H1,I1,r1,q1⟩=>?_) (he _)
 obtain ⟨d,rfl,q⟩:=q1
 cases r1
 exact wpAny_truthy_bool ⟨H1,I1,q⟩
variable {tA tB':TT} {rest:List Expr}
noncomputable def tAnd (t u:TT):TT:=fun σ H Q=>t σ H fun c H1=>if c=true then u σ H1 Q else Q false H1
noncomputable def tNot (t:TT):TT:=fun σ H Q=>t σ H fun c H1=>Q (!c) H1
theorem pw_and1 (ha:PT X a tA):PW X (.BoolOp .And [a] pos) tA:=by
 intro wh pins s σ H Q I h
 refine isTrue_and (thn (ha pins s σ H Q I h) fun c s1 e=>?_)
 cases c with
 | true=>exact isTrue_and_nil e
 | false=>exact e
theorem pw_and (ha:PT X a tA) (hb:PW X (.BoolOp .And (b :: rest) pos) tB'):PW X (.BoolOp .And (a :: b :: rest) pos) (tAnd tA tB'):=by
 intro wh pins s σ H Q I h
 refine isTrue_and (thn (ha pins s σ H _ I h) fun c s1 ⟨H1,I1,q1⟩=>?_)
 cases c with
 | true=>exact hb wh pins s1 σ H1 Q I1 q1
 | false=>exact ⟨H1,I1,q1⟩
theorem pt_not (ha:PT X a tA):PT X (.UnaryOp .Not a pos) (tNot tA):=by
 intro pins s σ H Q I h
 exact isTrue_not (ha pins s σ H (fun c H1=>Q (!c) H1) I h)
noncomputable def tAndV (ta tb:TE):TE:=fun σ H Q=>ta σ H fun x H1=>∃ c,x = .bl c∧if c=true then tb σ H1 Q else Q (.bl false) H1
noncomputable def tOrV (ta tb:TE):TE:=fun σ H Q=>ta σ H fun x H1=>∃ c,x = .bl c∧if c=true then Q (.bl true) H1 else tb σ H1 Q
noncomputable def tNotV (ta:TE):TE:=fun σ H Q=>ta σ H fun x H1=>∃ c,x = .bl c∧Q (.bl (!c)) H1
theorem pe_one {op} {t:TE} (h:PE X a t):PE X (.BoolOp op [a] pos) t:=fun pins s σ H Q I hw=>BoolOp_one (h pins s σ H Q I hw)
theorem pe_and (ha:PE X a ta) (hb:PE X (.BoolOp .And (b :: rest) pos) tb):PE X (.BoolOp .And (a :: b :: rest) pos) (tAndV ta tb):=by
 intro pins s σ H Q I h
 refine BoolOp_and (thn (ha pins s σ H _ I h) fun v s1 ⟨x,H1,I1,r1,q1⟩=>?_)
 obtain ⟨c,rfl,q1⟩:=q1
 cases r1
 refine wpAny_truthy_bool ?_
 cases c with
 | true=>exact hb pins s1 σ H1 Q I1 q1
 | false=>exact ⟨.bl false,H1,I1,rfl,q1⟩
theorem pe_or (ha:PE X a ta) (hb:PE X (.BoolOp .Or (b :: rest) pos) tb):PE X (.BoolOp .Or (a :: b :: rest) pos) (tOrV ta tb):=by
 intro pins s σ H Q I h
 refine BoolOp_or (thn (ha pins s σ H _ I h) fun v s1 ⟨x,H1,I1,r1,q1⟩=>?_)
 obtain ⟨c,rfl,q1⟩:=q1
 cases r1
 refine wpAny_truthy_bool ?_
 cases c with
 | false=>exact hb pins s1 σ H1 Q I1 q1
 | true=>exact ⟨.bl true,H1,I1,rfl,q1⟩
theorem pe_not (ha:PE X a ta):PE X (.UnaryOp .Not a pos) (tNotV ta):=by
 intro pins s σ H Q I h
 refine UnaryOp_ (thn (ha pins s σ H _ I h) fun v s1 ⟨x,H1,I1,r1,q1⟩=>?_)
 obtain ⟨c,rfl,q1⟩:=q1
 cases r1
 exact not_of (wpAny_truthy_bool ⟨.bl (!c),H1,I1,rfl,q1⟩)
noncomputable def tIf (t:TT) (ta tb:TE):TE:=fun σ H Q=>t σ H fun c H1=>if c=true then ta σ H1 Q else tb σ H1 Q
theorem pe_ifExp {c:Expr} (hc:PT X c tA) (ha:PE X a ta) (hb:PE X b tb):PE X (.IfExp c a b pos) (tIf tA ta tb):=by
 intro pins s σ H Q I h
 refine wpAny_IfExp (thn (hc pins s σ H _ I h) fun d s1 ⟨H1,I1,q1⟩=>?_)
 cases d with
 | true=>exact ha pins s1 σ H1 Q I1 q1
 | false=>exact hb pins s1 σ H1 Q I1 q1
end
end L2
namespace L2
open PySem PySem.Spec PyProof.Rows
noncomputable def SqL (K:PySem.W.Frag) (H:Hp) (a:Addr) (xs:List V):Prop :=
 Rd H a (.lst xs) ∨
  ∃ (o:Obj) (its:Array Value) (n:Nat),K.lookup a=some o∧o.cls = .type "list"∧o.dict=none∧o.data = .seq its n∧its.size≤sizeLine∧Vals xs its.toList
noncomputable def SqT (K:PySem.W.Frag) (H:Hp) (a:Addr) (xs:List V):Prop :=
 Rd H a (.tup xs) ∨
  ∃ (o:Obj) (its:Array Value) (n:Nat),K.lookup a=some o∧o.cls = .type "tuple"∧o.data = .seq its n∧its.size≤sizeLine∧Vals xs its.toList
noncomputable def absV:Value→Option V
 | .none=>some .non
 | .bool b=>some (.bl b)
 | .int i _=>some (.int i)
 | .str x _=>some (.str x)
 | .bytes b _=>some (.byt b)
 | .float b _=>some (.flt b)
 | .ref a=>some (.ref a)
 | .type n=>some (.ty n)
 | _=>none
theorem RelV.abs {x:V} {u:Value} (r:RelV x u):absV u=some x:=by
 cases x with
 | non=>cases r; rfl
 | bl _=>cases r; rfl
 | int _=>obtain ⟨t,rfl⟩:=r; rfl
 | str _=>obtain ⟨t,rfl⟩:=r; rfl
 | byt _=>obtain ⟨t,rfl⟩:=r; rfl
 | flt _=>obtain ⟨t,rfl⟩:=r; rfl
 | ref _=>cases r; rfl
 | ty _=>cases r; rfl
theorem RelV.inj {x y:V} {u:Value} (r:RelV x u) (q:RelV y u):x=y:=Option.some.inj (r.abs.symm.trans q.abs)
theorem Vals.inj:∀ {xs ys:List V} {us:List Value},Vals xs us→Vals ys us→xs=ys
 | _,_,_,.nil,.nil=>rfl
 | _,_,_,.cons r t,.cons r' t'=>by rw [r.inj r',Vals.inj t t']
section
variable {X:Cx} {pins:List (Addr×Obj)} {σ:St} {H:Hp} {s:Shared} {a:Addr} {xs ys:List V}
theorem SqL.of {K:PySem.W.Frag} (h:H a=some (.lst xs)):SqL K H a xs:=.inl (.inl h)
theorem SqT.of {K:PySem.W.Frag} (h:H a=some (.tup xs)):SqT K H a xs:=.inl (.inl h)
theorem Inv.list (I:Inv X pins σ H s) (h:SqL X.K H a xs):∃ its:List Value,Vals xs its∧PlainL s.heap a its.toArray∧xs.length≤sizeLine:=by
 rcases h with h | ⟨o,its,n,hk,hc,hd,hs,hz,r⟩
 · obtain ⟨z,its,n,r,e⟩:=h.ok I.hok
   exact ⟨its,r,⟨_,n,e,rfl,rfl,rfl⟩,z⟩
 · refine ⟨its.toList,r,⟨o,n,I.kIn a o hk,hc,hd,by simpa using hs⟩,?_⟩
   have e:=r.length
   simp only [Array.length_toList] at e
   omega
theorem Inv.tuple (I:Inv X pins σ H s) (h:SqT X.K H a xs):∃ its:List Value,Vals xs its∧IsTup s.heap a its.toArray∧xs.length≤sizeLine:=by
 rcases h with h | ⟨o,its,n,hk,hc,hs,hz,r⟩
 · obtain ⟨z,its,r,p⟩:=h.ok I.hok
   exact ⟨its,r,p,z⟩
 · refine ⟨its.toList,r,⟨o,I.kIn a o hk,hc,n,by simpa using hs⟩,?_⟩
   have e:=r.length
   simp only [Array.length_toList] at e
   omega
theorem Inv.list_inj (I:Inv X pins σ H s) (h:SqL X.K H a xs) (h':SqL X.K H a ys):xs=ys:=by
 obtain ⟨its,r,⟨o,n,e,_,_,d⟩,_⟩:=I.list h
 obtain ⟨its',r',⟨o',n',e',_,_,d'⟩,_⟩:=I.list h'
 rw [e] at e'; cases e'
 rw [d] at d'
 injection d' with d1 _
 have:its=its':=by simpa using congrArg Array.toList d1
 subst this
 exact r.inj r'
theorem Inv.tuple_inj (I:Inv X pins σ H s) (h:SqT X.K H a xs) (h':SqT X.K H a ys):xs=ys:=by
 obtain ⟨its,r,⟨o,e,_,n,d⟩,_⟩:=I.tuple h
 obtain ⟨its',r',⟨o',e',_,n',d'⟩,_⟩:=I.tuple h'
 rw [e] at e'; cases e'
 rw [d] at d'
 injection d' with d1 _
 have:its=its':=by simpa using congrArg Array.toList d1
 subst this
 exact r.inj r'
end
noncomputable abbrev Cx.wish (X:Cx) (E:Value→Shared→Prop):Cx:={ X with xe:=E }
noncomputable abbrev Cx.nox (X:Cx):Cx:=X.wish fun _ _=>False
theorem Cx.Ok.wish {X:Cx} (ok:X.Ok) (E:Value→Shared→Prop):(X.wish E).Ok :=
 ⟨ok.mod,ok.kind,ok.glob,ok.blt,ok.above,ok.inj,ok.has,ok.cab,ok.hd,ok.frames,ok.stk,ok.exf,ok.bs,ok.bsz,ok.noex,ok.exfs,ok.funs,ok.frf⟩
theorem Cx.Ok.unwish {X:Cx} {E:Value→Shared→Prop} (ok:(X.wish E).Ok):X.Ok :=
 ⟨ok.mod,ok.kind,ok.glob,ok.blt,ok.above,ok.inj,ok.has,ok.cab,ok.hd,ok.frames,ok.stk,ok.exf,ok.bs,ok.bsz,ok.noex,ok.exfs,ok.funs,ok.frf⟩
section
variable {X:Cx} {pins:List (Addr×Obj)} {σ:St} {H:Hp} {s:Shared} {E:Value→Shared→Prop}
theorem Inv.wish (I:Inv X pins σ H s) (E:Value→Shared→Prop):Inv (X.wish E) pins σ H s:=⟨I.ok.wish E,I.os,I.bare,I.base,I.loc,I.cell,I.free,I.freeC,I.pin,I.hok,I.len⟩
theorem Inv.unwish (I:Inv (X.wish E) pins σ H s):Inv X pins σ H s:=⟨I.ok.unwish,I.os,I.bare,I.base,I.loc,I.cell,I.free,I.freeC,I.pin,I.hok,I.len⟩
theorem SP.unwish {D:Ends} {f:Flow} {s':Shared} (h:SP (X.wish E) pins D f s'):SP X pins D f s':=by
 cases f with
 | next=>obtain ⟨σ',H',I,q⟩:=h; exact ⟨σ',H',I.unwish,q⟩
 | brk=>obtain ⟨σ',H',I,q⟩:=h; exact ⟨σ',H',I.unwish,q⟩
 | cont=>obtain ⟨σ',H',I,q⟩:=h; exact ⟨σ',H',I.unwish,q⟩
 | ret u=>obtain ⟨v,σ',H',I,r,q⟩:=h; exact ⟨v,σ',H',I.unwish,r,q⟩
theorem PSs.nox {st:List Stmt} {t:TS} (h:PSs X.nox st t):PSs X st t:=fun pins s σ H D I hw =>
 wpAny_mono (h pins s σ H D (I.wish _) hw) (fun _ _ q=>q.unwish) fun _ _ z=>False.elim z
end
section
variable {X:Cx} {st:Stmt} {rest:List Stmt} {t u:TS} {e:Expr} {te:TE} {pos:Pos}
noncomputable def tNext:TS:=fun D σ H=>D.nx σ H
noncomputable def tSeq (t u:TS):TS:=fun D σ H=>t { D with nx:=u D } σ H
theorem pss_nil:PSs X [] tNext:=fun _ _ σ H _ I h=>wpAny_execs_nil ⟨σ,H,I,h⟩
theorem pss_cons (h1:PS X st t) (h2:PSs X rest u):PSs X (st :: rest) (tSeq t u):=by
 intro pins s σ H D I h
 refine wpAny_execs_cons (thn (h1 pins s σ H { D with nx:=u D } I h) fun f s1 q=>?_)
 cases f with
 | next =>
   obtain ⟨σ',H',I',q⟩:=q
   exact h2 pins s1 σ' H' D I' q
 | ret v=>exact q
 | brk=>exact q
 | cont=>exact q
theorem pss_one (h1:PS X st t):PSs X [st] t:=by
 intro pins s σ H D I h
 refine wpAny_execs_cons (thn (h1 pins s σ H D I h) fun f s1 q=>?_)
 cases f with
 | next=>exact wpAny_execs_nil q
 | ret v=>exact q
 | brk=>exact q
 | cont=>exact q
theorem ps_pass:PS X (.Pass pos) tNext:=fun _ _ σ H _ I h=>wpAny_Pass ⟨σ,H,I,h⟩
theorem Inv.quiet {pins:List (Addr×Obj)} {σ:St} {H:Hp} {s:Shared} (I:Inv X pins σ H s):interactive X.env=false:=by simp [interactive,I.ok.kind]
noncomputable def tDrop (te:TE):TS:=fun D σ H=>te σ H fun _ H1=>D.nx σ H1
theorem ps_expr (he:PE X e te) (hs:swapsWith e none pos.line X.env=pure false:=by rfl):PS X (.Expr e pos) (tDrop te):=by
 intro pins s σ H D I h
 exact wpAny_Expr_any (thn (he pins s σ H _ I h) fun v s1 ⟨x,H1,I1,r1,q1⟩=>⟨σ,H1,I1,q1⟩) I.quiet hs
noncomputable def tRet (te:TE):TS:=fun D σ H=>te σ H D.rt
theorem ps_ret (he:PE X e te):PS X (.Return (some e) pos) (tRet te):=by
 intro pins s σ H D I h
 exact wpAny_Return_some (thn (he pins s σ H _ I h) fun v s1 ⟨x,H1,I1,r1,q1⟩=>⟨x,σ,H1,I1,r1,q1⟩)
noncomputable def tIfS (c:TT) (t u:TS):TS:=fun D σ H=>c σ H fun b H1=>if b=true then t D σ H1 else u D σ H1
theorem ps_if {c:Expr} {a b:List Stmt} {tc:TT} (hc:PT X c tc) (ha:PSs X a t) (hb:PSs X b u):PS X (.If c a b pos) (tIfS tc t u):=by
 intro pins s σ H D I h
 refine wpAny_If (thn (hc pins s σ H _ I h) fun d s1 ⟨H1,I1,q1⟩=>?_)
 cases d with
 | true=>exact ha pins s1 σ H1 D I1 q1
 | false=>exact hb pins s1 σ H1 D I1 q1
end
noncomputable abbrev TG:=V→St→Hp→(St→Hp→Prop)→Prop
noncomputable abbrev TGs:=List V→St→Hp→(St→Hp→Prop)→Prop
noncomputable def PG (X:Cx) (target:Expr) (t:TG):Prop :=
 ∀ (pins:List (Addr×Obj)) (s:Shared) (σ:St) (H:Hp) (v:V) (u:Value) (Q:St→Hp→Prop),Inv X pins σ H s→RelV v u→t v σ H Q →
  wpAny (model X.prog X.w) X.A (assign target X.env u) (fun _ s'=>∃ σ' H',Inv X pins σ' H' s'∧Q σ' H') X.xe s
noncomputable def PGs (X:Cx) (ts:List Expr) (t:TGs):Prop :=
 ∀ (pins:List (Addr×Obj)) (s:Shared) (σ:St) (H:Hp) (vs:List V) (us:List Value) (Q:St→Hp→Prop),Inv X pins σ H s→Vals vs us→t vs σ H Q →
  wpAny (model X.prog X.w) X.A (assignInOrder ((assignEach ts X.env).map (·.2)) us) (fun _ s'=>∃ σ' H',Inv X pins σ' H' s'∧Q σ' H') X.xe s
noncomputable abbrev TSet:=V→V→V→Hp→(Hp→Prop)→Prop
noncomputable def PSet (X:Cx) (t:TSet):Prop :=
 ∀ (pins:List (Addr×Obj)) (s:Shared) (σ:St) (H:Hp) (o i v:V) (ov iv u:Value) (Q:Hp→Prop),Inv X pins σ H s→RelV o ov→RelV i iv→RelV v u→t o i v H Q →
  wpAny (model X.prog X.w) X.A (setItem ov iv u) (fun _ s'=>∃ H',Inv X pins σ H' s'∧Q H') X.xe s
noncomputable abbrev TIp:=V→V→Hp→VK→Prop
noncomputable def PIp (X:Cx) (op:Operator) (t:TIp):Prop :=
 ∀ (pins:List (Addr×Obj)) (s:Shared) (σ:St) (H:Hp) (x y:V) (v u:Value) (Q:VK),Inv X pins σ H s→RelV x v→RelV y u→t x y H Q →
  wpAny (model X.prog X.w) X.A (inplaceOp op v u) (EP X pins σ Q) X.xe s
section
variable {X:Cx} {pos:Pos}
noncomputable def gName (i:Nat):TG:=fun v σ H Q=>Q (σ.set i (some v)) H
theorem pg_name {i:Nat} {x:Str} (hN:X.N.Nodup) (hi:X.N[i]?=some x) (hx:Loc X.env.scope x) (hf:X.fn x=true∨X.env.scope.names.lookup x=some .local:=by first | exact .inl rfl | exact .inr rfl | assumption):PG X (.Name x pos) (gName i):=by
 intro pins s σ H v u Q I r h
 exact wpAny_assign_Name (store_ok I hN hi hx r (fun s' I'=>⟨_,H,I',h⟩) hf)
noncomputable def gNil:TGs:=fun vs σ H Q=>vs=[]∧Q σ H
noncomputable def gCons (t:TG) (u:TGs):TGs:=fun vs σ H Q=>∃ v r,vs=v :: r∧t v σ H fun σ' H'=>u r σ' H' Q
theorem pgs_nil:PGs X [] gNil:=by
 intro pins s σ H vs us Q I r h
 obtain ⟨e,h⟩:=h
 subst e
 cases r
 exact assignInOrder_nil ⟨σ,H,I,h⟩
theorem pgs_cons {e:Expr} {es:List Expr} {t:TG} {u:TGs} (h1:PG X e t) (h2:PGs X es u)
  (hs:(assignEach (e :: es) X.env).map (·.2)=assign e X.env :: (assignEach es X.env).map (·.2):=by rfl):PGs X (e :: es) (gCons t u):=by
 intro pins s σ H vs us Q I r h
 obtain ⟨v,vr,e1,h⟩:=h
 subst e1
 cases r with
 | cons r rr =>
   rw [hs]
   refine assignInOrder_cons (thn (h1 pins s σ H _ _ _ I r h) fun _ s1 ⟨σ1,H1,I1,q1⟩=>?_)
   exact h2 pins s1 σ1 H1 _ _ Q I1 rr q1
noncomputable def gTup (K:PySem.W.Frag) (n:Nat) (t:TGs):TG:=fun v σ H Q=>∃ a xs,v = .ref a∧SqT K H a xs∧xs.length=n∧t xs σ H Q
theorem pg_tup {es:List Expr} {k:Nat} {t:TGs} {n:Nat} (hc:X.calm=true) (h:PGs X es t)
  (hn:(assignEach es X.env).length=n:=by rfl) (hst:(assignEach es X.env).findIdx? (·.1)=none:=by rfl):PG X (.Tuple es k pos) (gTup X.K n t):=by
 intro pins s σ H v u Q I r hw
 obtain ⟨a,xs,e1,hq,hl,hw⟩:=hw
 subst e1
 cases r
 obtain ⟨its,rv,ht,hz⟩:=I.tuple hq
 refine assign_Tuple_tuple (I.ok.hd hc) ht (by simp [hn,← hl,rv.length]) hst fun h' hx=>?_
 have I1:Inv X pins σ H { s with heap:=h' }:=I.kept (t':=s.toks) fun b o e=>hx b o (Nat.ne_of_lt (Heap.lt_size e)) e
 exact h pins _ σ H xs _ Q I1 (by simpa using rv) hw
noncomputable def gSub (to ti:TE) (t:TSet):TG:=fun v σ H Q=>to σ H fun o H1=>ti σ H1 fun i H2=>t o i v H2 fun H3=>Q σ H3
theorem pg_sub {o i:Expr} {to ti:TE} {t:TSet} (ho:PE X o to) (hi:PE X i ti) (hs:PSet X t)
  (ha:∀ v,assign (.Subscript o i pos) X.env v=(do
    let ov ← holding [v] (eval o X.env)
    let iv ← holding [v,ov] (eval i X.env)
    standAt pos
    holding [v,ov,iv] (setItem ov iv v)
    release [v,ov,iv] []):=by intro _; rfl):PG X (.Subscript o i pos) (gSub to ti t):=by
 intro pins s σ H v u Q I r h
 rw [ha]
 refine wpAny_bind (wpAny_holding (thn (ho pins s σ H _ I h) fun ov s1 ⟨x,H1,I1,r1,q1⟩=>?_))
 refine wpAny_bind (wpAny_holding (thn (hi pins s1 σ H1 _ I1 q1) fun iv s2 ⟨y,H2,I2,r2,q2⟩=>?_))
 refine wpAny_bind (wpAny_standAt (wpAny_bind (wpAny_holding (thn (hs pins s2 σ H2 x y v ov iv u _ I2 r1 r2 r q2) fun _ s3 ⟨H3,I3,q3⟩=>?_))))
 exact wpAny_release ⟨σ,H3,I3,q3⟩
noncomputable def tAsg (te:TE) (g:TG):TS:=fun D σ H=>te σ H fun x H1=>g x σ H1 D.nx
theorem ps_asg {tg e:Expr} {te:TE} {g:TG} (he:PE X e te) (hg:PG X tg g) (hs:swapsWithSole [tg] e pos.line X.env=pure false:=by rfl) (hw:swappedStores [tg] e X.env=pure none:=by rfl)
  (h1:(assignEach [tg] X.env).map (·.2)=[assign tg X.env]:=by rfl):PS X (.Assign [tg] e pos) (tAsg te g):=by
 intro pins s σ H D I h
 refine wpAny_Assign_stores (thn (he pins s σ H _ I h) fun v s1 ⟨x,H1,I1,r1,q1⟩=>?_) hs hw
 rw [h1]
 exact thn (hg pins s1 σ H1 x v _ I1 r1 q1) fun _ s2 q=>q
theorem ps_set {i:Nat} {x:Str} {e:Expr} {te:TE} {pos':Pos} (hN:X.N.Nodup) (hi:X.N[i]?=some x) (hx:Loc X.env.scope x) (he:PE X e te) (hs:swapsWith e (some (.Name x pos')) pos.line X.env=pure false:=by rfl) (hf:X.fn x=true∨X.env.scope.names.lookup x=some .local:=by first | exact .inl rfl | exact .inr rfl | assumption) :
  PS X (.Assign [.Name x pos'] e pos) (tAsg te (gName i)):=by
 intro pins s σ H D I h
 refine wpAny_Assign_Name (thn (he pins s σ H _ I h) fun v s1 ⟨y,H1,I1,r1,q1⟩=>?_) hs
 exact store_ok I1 hN hi hx r1 (fun s2 I2=>⟨_,H1,I2,q1⟩) hf
noncomputable def tAug (i:Nat) (te:TE) (ti:TIp):TS:=fun D σ H=>∃ x,σ[i]?=some (some x)∧te σ H fun y H1=>ti x y H1 fun z H2=>D.nx (σ.set i (some z)) H2
theorem ps_aug {i:Nat} {x:Str} {e:Expr} {te:TE} {op:Operator} {ti:TIp} {pos':Pos} (hN:X.N.Nodup) (hi:X.N[i]?=some x) (hx:Loc X.env.scope x) (he:PE X e te) (ho:PIp X op ti) (hf:X.fn x=true∨X.env.scope.names.lookup x=some .local:=by first | exact .inl rfl | exact .inr rfl | assumption) :
  PS X (.AugAssign (.Name x pos') op e pos) (tAug i te ti):=by
 intro pins s σ H D I h
 obtain ⟨v,e1,h⟩:=h
 obtain ⟨m,hn,hl⟩:=I.loc
 have vis:Vis X.env.scope x:=by rcases hx with k | k; exact .inl k; exact .inr (.inl k)
 obtain ⟨u,r,l⟩:=hl i x v hi e1 vis
 refine wpAny_AugAssign_Name ?_
 have go:wpAny (model X.prog X.w) X.A (eval e X.env) (fun w s₂=>wpAny (model X.prog X.w) X.A (inplaceOp op u w) (fun r s₃=>wpAny (model X.prog X.w) X.A (storeName X.env x r) (fun _=>SP X pins D .next) X.xe s₃) X.xe s₂) X.xe s:=by
  refine thn (he pins s σ H _ I h) fun w s1 ⟨y,H1,I1,r1,q1⟩=>?_
  refine thn (ho pins s1 σ H1 v y u w _ I1 r r1 q1) fun z s2 ⟨zv,H2,I2,r2,q2⟩=>?_
  exact store_ok I2 hN hi hx r2 (fun s3 I3=>⟨_,H2,I3,q2⟩) hf
 rcases l with ⟨hk,hm⟩ | ⟨hk,c,hc,hcell⟩
 · exact wpAny_loadName_local I.ok.kind hk hn hm go
 · rcases hk with hk | hk
   · exact wpAny_loadName_cell I.ok.kind hk hc hcell go
   · rcases hx with k | k
     · have:X.env.scope.names.lookup x=some .free:=hk
       rw [k] at this; cases this
     · have:X.env.scope.names.lookup x=some .free:=hk
       rw [k] at this; cases this
end
section
variable {X:Cx} {pos:Pos}
noncomputable def tWhile (c:TT) (tb:TS):TS:=fun D σ H=>∃ W:Nat→St→Hp→Prop,(∃ m,W m σ H)∧∀ m σ H,W m σ H →
 c σ H fun b H1=>if b=true then ∃ N:St→Hp→Prop,(∀ σ' H',N σ' H'→∃ m',m' < m∧W m' σ' H')∧tb { D with nx:=N,ct:=N,bk:=D.nx } σ H1 else D.nx σ H1
theorem ps_while {c:Expr} {body:List Stmt} {tc:TT} {tb:TS} (hp:PassesOwn (model X.prog X.w) X.A X.env X.xe) (hc:PT X c tc) (hb:PSs X body tb):PS X (.While c body [] pos) (tWhile tc tb):=by
 intro pins s σ H D I h
 obtain ⟨W,⟨m0,w0⟩,turn⟩:=h
 refine wpAny_While (codeAny_whileLoop (fun n s'=>∃ σ' H',Inv X pins σ' H' s'∧W n σ' H') ?_ m0 ⟨σ,H,I,w0⟩)
 rintro n s1 ⟨σ1,H1,I1,w1⟩
 refine wpAny_passesOwn hp (thn (hc pins s1 σ1 H1 _ I1 (turn n σ1 H1 w1)) fun b s2 ⟨H2,I2,q2⟩=>?_)
 cases b with
 | true =>
   obtain ⟨N,hN,q2⟩:=q2
   rw [if_pos rfl]
   refine wpAny_passesOwn hp (thn (hb pins s2 σ1 H2 _ I2 q2) fun f s3 q3=>?_)
   cases f with
   | next =>
     obtain ⟨σ3,H3,I3,n3⟩:=q3
     obtain ⟨m',hm,w3⟩:=hN σ3 H3 n3
     exact ⟨m',hm,σ3,H3,I3,w3⟩
   | cont =>
     obtain ⟨σ3,H3,I3,n3⟩:=q3
     obtain ⟨m',hm,w3⟩:=hN σ3 H3 n3
     exact ⟨m',hm,σ3,H3,I3,w3⟩
   | brk=>exact q3
   | ret v=>exact q3
 | false =>
   rw [if_neg Bool.false_ne_true]
   exact wpAny_execs_nil ⟨σ1,H2,I2,q2⟩
end
structure It where
 go:Nat→Hp→Prop
 yld:Nat→Hp→V→Hp→Prop
 stop:Nat→Hp→Prop
noncomputable def FpOk (X:Cx) (pins:List (Addr×Obj)) (H:Hp) (b:Addr):Prop :=
 H b=none∧b≠X.env.locals∧b∉X.fs∧(b∈X.ex∨X.s₀.heap.objs.size≤b)∧(∀ x c,X.env.cells.lookup x=some c→c≠b)∧∀ p∈X.pn ++ pins,p.1≠b
theorem Inv.fpOk {X:Cx} {pins:List (Addr×Obj)} {σ:St} {H H':Hp} {s:Shared} {b:Addr} (I:Inv X pins σ H s) (hb:s.heap.objs.size≤b) (hn:H' b=none):FpOk X pins H' b:=by
 refine ⟨hn,Nat.ne_of_gt (Nat.lt_of_lt_of_le I.lt hb),I.nofs hb,.inr (Nat.le_trans I.sz hb),fun x c e z=>?_,fun p hp z=>?_⟩
 · obtain ⟨v,q⟩:=I.cell x c e
   exact absurd (Nat.lt_of_lt_of_le q.lt (by rw [z]; exact hb)) (Nat.lt_irrefl _)
 · exact absurd (Nat.lt_of_lt_of_le (Heap.lt_size (I.pin p hp).1) (by rw [z]; exact hb)) (Nat.lt_irrefl _)
structure Turn (P:Program) (w:World) (K:PySem.W.Frag) (tg:Expr) (J:It) (fp:List Addr) (it:Addr) (tn:Nat→Heap→Prop):Prop where
 mem:it∈fp
 obj:∀ i h,tn i h→∀ b∈fp,∃ o,h.get? b=some o∧∀ v,o.data≠.cell v
 keep:∀ i h h',tn i h→(∀ b∈fp,∀ o,h.get? b=some o→h'.get? b=some o)→tn i h'
 item:∀ (X:Cx),X.prog=P→X.w=w→X.K=K→X.calm=true→∀ (i:Nat) (pins:List (Addr×Obj)) (s:Shared) (σ:St) (H:Hp) (E:Value→Shared→Prop),Inv X pins σ H s→(∀ b∈fp,FpOk X pins H b)→tn i s.heap→J.go i H →
  wpAny (model P w) X.A (pyNext (.ref it)) (fun r s1=>∃ u,r=some u ∧
   wpAny (model P w) X.A (letOwnedTupleGo tg (.ref it) u) (fun _ s2=>∃ x H',Inv X pins σ H' s2∧RelV x u∧J.yld i H x H'∧tn (i+1) s2.heap∧∀ b∈fp,H' b=none) E s1) E s
 done:∀ (X:Cx),X.prog=P→X.w=w→X.K=K→X.calm=true→∀ (i:Nat) (pins:List (Addr×Obj)) (s:Shared) (σ:St) (H:Hp) (E:Value→Shared→Prop),Inv X pins σ H s→(∀ b∈fp,FpOk X pins H b)→tn i s.heap→J.stop i H →
  wpAny (model P w) X.A (pyNext (.ref it)) (fun r s1=>r=none∧Inv X pins σ H s1) E s
 self:∀ (A:Around) (i:Nat) (s:Shared) (Q:Value→Shared→Prop) (E:Value→Shared→Prop),tn i s.heap→Q (.ref it) s→wpAny (model P w) A (pyIter (.ref it)) Q E s
noncomputable abbrev TI:=St→Hp→(It→Hp→Prop)→Prop
noncomputable def PIE (X:Cx) (pins:List (Addr×Obj)) (σ:St) (tg:Expr) (R:It→Hp→Prop) (itv:Value) (s2:Shared):Prop :=
 ∃ (it:Addr) (fp:List Addr) (tn:Nat→Heap→Prop) (J:It) (H':Hp),itv = .ref it∧Inv X pins σ H' s2∧Turn X.prog X.w X.K tg J fp it tn∧tn 0 s2.heap∧(∀ b∈fp,FpOk X pins H' b)∧R J H'
noncomputable def PI (X:Cx) (tg iter:Expr) (wi:TI):Prop :=
 ∀ (pins:List (Addr×Obj)) (s:Shared) (σ:St) (H:Hp) (R:It→Hp→Prop),Inv X pins σ H s→wi σ H R →
  wpAny (model X.prog X.w) X.A (eval iter X.env) (fun v s1=>wpAny (model X.prog X.w) X.A (pyIter v) (PIE X pins σ tg R) X.xe s1) X.xe s
theorem go_of {M:Model} {A:Around} {E:Value→Shared→Prop} {s:Shared} {tg:Expr} {it:Addr} {u:Value} {o:Obj} {n:String} {vs:Array Value} {Q:Unit→Shared→Prop} (ho:s.heap.get? it=some o) (hc:o.cls = .type n) (hd:o.data = .fields vs)
  (hn:["enumerate","zip","dict_itemiterator","dict_reverseitemiterator","odict_iterator","itertools.zip_longest","itertools.pairwise"].contains n=false) (hQ:Q () s):wpAny M A (letOwnedTupleGo tg (.ref it) u) Q E s:=by
 unfold letOwnedTupleGo
 cases tg <;> first
  | exact wpAny_pure hQ
  | (cases u <;> first
      | exact wpAny_pure hQ
      | (refine wpAny_bind (wpAny_load ho ?_)
         rw [hc,hd]
         show wpAny M A (if (["enumerate","zip","dict_itemiterator","dict_reverseitemiterator","odict_iterator","itertools.zip_longest","itertools.pairwise"].contains n && vs[0]? == some (rawInt _))=true then _ else _) Q E s
         rw [if_neg (by intro h; rw [hn,Bool.false_and] at h; cases h)]
         exact wpAny_pure hQ))
noncomputable def Itl (K:PySem.W.Frag) (a:Addr):It :=
 ⟨fun i H=>∃ xs x,SqL K H a xs∧xs[i]?=some x,fun i H x H'=>H'=H∧∀ xs,SqL K H a xs→xs[i]?=some x,fun i H=>∃ xs,SqL K H a xs∧xs.length≤i⟩
noncomputable def Itt (K:PySem.W.Frag) (a:Addr):It :=
 ⟨fun i H=>∃ xs x,SqT K H a xs∧xs[i]?=some x,fun i H x H'=>H'=H∧∀ xs,SqT K H a xs→xs[i]?=some x,fun i H=>∃ xs,SqT K H a xs∧xs.length≤i⟩
noncomputable def Itr (lo:Int) (n:Nat):It:=⟨fun i _=>i < n,fun i H x H'=>H'=H∧x = .int (lo+i),fun i _=>n≤i⟩
theorem turn_list {P:Program} {w:World} {K:PySem.W.Frag} {tg:Expr} (a it:Addr):Turn P w K tg (Itl K a) [it] it (fun i h=>h.IsListIter it a i) where
 mem:=by simp
 obj:=fun i h st b hb=>by
  have e:b=it:=by simpa using hb
  subst e
  obtain ⟨o,e,c,d⟩:=st
  exact ⟨o,e,fun v z=>by rw [d] at z; cases z⟩
 keep:=fun i h h' st k=>st.at fun o e=>k it (by simp) o e
 item:=by
  intro X hP hw hK hc i pins s σ H E I hf st hg
  subst hP hw hK
  obtain ⟨xs,x,hq,hx⟩:=hg
  obtain ⟨its,rv,p,hz⟩:=I.list hq
  obtain ⟨u,hu,ru⟩:=rv.get hx
  obtain ⟨f0,f1,f2,f3,f4,f5⟩:=hf it (by simp)
  refine wpAny_pyNext_list_item st p.isList (x:=u) (by simpa using hu) fun h' st' sb=>?_
  have I1:Inv X pins σ H { s with heap:=h' }:=I.turned (t':=s.toks) (fun b o hb e=>(sb.2 b hb).trans e) f0 f1 f3 f4 f5
  obtain ⟨o,e,c,d⟩:=id st'
  exact ⟨u,rfl,go_of (s:={ s with heap:=h' }) e c d (by decide) ⟨x,H,I1,ru,⟨rfl,fun ys hy=>by rw [I.list_inj hy hq]; exact hx⟩,st',fun b hb=>(hf b hb).1⟩⟩
 done:=by
  intro X hP hw hK hc i pins s σ H E I hf st hg
  subst hP hw hK
  obtain ⟨xs,hq,hx⟩:=hg
  obtain ⟨its,rv,p,hz⟩:=I.list hq
  obtain ⟨f0,f1,f2,f3,f4,f5⟩:=hf it (by simp)
  have hl:=rv.length
  exact wpAny_pyNext_list_end (I.ok.hd hc) st p.isList (by simp; omega) fun h' eb=>⟨rfl,I.turned (t':=s.toks) (fun b o hb e=>eb b o hb e) f0 f1 f3 f4 f5⟩
 self:=fun _ _ _ _ _ st h=>wpAny_pyIter_listiter st h
theorem turn_tuple {P:Program} {w:World} {K:PySem.W.Frag} {tg:Expr} (a it:Addr):Turn P w K tg (Itt K a) [it] it (fun i h=>h.IsTupleIter it a i) where
 mem:=by simp
 obj:=fun i h st b hb=>by
  have e:b=it:=by simpa using hb
  subst e
  obtain ⟨o,e,c,d⟩:=st
  exact ⟨o,e,fun v z=>by rw [d] at z; cases z⟩
 keep:=fun i h h' st k=>st.at fun o e=>k it (by simp) o e
 item:=by
  intro X hP hw hK hc i pins s σ H E I hf st hg
  subst hP hw hK
  obtain ⟨xs,x,hq,hx⟩:=hg
  obtain ⟨its,rv,p,hz⟩:=I.tuple hq
  obtain ⟨u,hu,ru⟩:=rv.get hx
  obtain ⟨f0,f1,f2,f3,f4,f5⟩:=hf it (by simp)
  refine wpAny_pyNext_tuple_item st (show s.heap.IsTuple a its.toArray from p) (x:=u) (by simpa using hu) fun h' st' sb=>?_
  have I1:Inv X pins σ H { s with heap:=h' }:=I.turned (t':=s.toks) (fun b o hb e=>(sb.2 b hb).trans e) f0 f1 f3 f4 f5
  obtain ⟨o,e,c,d⟩:=id st'
  exact ⟨u,rfl,go_of (s:={ s with heap:=h' }) e c d (by decide) ⟨x,H,I1,ru,⟨rfl,fun ys hy=>by rw [I.tuple_inj hy hq]; exact hx⟩,st',fun b hb=>(hf b hb).1⟩⟩
 done:=by
  intro X hP hw hK hc i pins s σ H E I hf st hg
  subst hP hw hK
  obtain ⟨xs,hq,hx⟩:=hg
  obtain ⟨its,rv,p,hz⟩:=I.tuple hq
  obtain ⟨f0,f1,f2,f3,f4,f5⟩:=hf it (by simp)
  have hl:=rv.length
  exact wpAny_pyNext_tuple_end (I.ok.hd hc) st (show s.heap.IsTuple a its.toArray from p) (by simp; omega) fun h' eb=>⟨rfl,I.turned (t':=s.toks) (fun b o hb e=>eb b o hb e) f0 f1 f3 f4 f5⟩
 self:=fun _ _ _ _ _ st h=>wpAny_pyIter_tupleiter st h
theorem turn_range {P:Program} {w:World} {K:PySem.W.Frag} {tg:Expr} (it:Addr) (lo:Int) (n:Nat):Turn P w K tg (Itr lo n) [it] it (fun i h=>IsRangeIter h it (lo+(i:Nat) * 1) ((n:Int) - (i:Nat)) 1) where
 mem:=by simp
 obj:=fun i h st b hb=>by
  have e:b=it:=by simpa using hb
  subst e
  exact ⟨_,st,fun v z=>by
   have z':Data.fields _=Data.cell v:=z
   cases z'⟩
 keep:=fun i h h' st k=>k it (by simp) _ st
 item:=by
  intro X hP hw hK hc i pins s σ H E I hf st hg
  subst hP hw hK
  obtain ⟨f0,f1,f2,f3,f4,f5⟩:=hf it (by simp)
  have W:=Walks.range (prog:=X.prog) (w:=X.w) (I.ok.hd hc) it lo 1 n
  refine W.item i s _ _ hg st fun v h' tk hv st' kk=>?_
  obtain ⟨t,rfl⟩:=hv
  have I1:Inv X pins σ H { s with heap:=h',toks:=tk }:=I.turned (fun b o hb e=>kk b o (by simpa using hb) e) f0 f1 f3 f4 f5
  refine ⟨_,rfl,go_of (s:={ s with heap:=h',toks:=tk }) (n:="range_iterator") st' rfl rfl (by decide) ⟨.int (lo+i),H,I1,⟨t,?_⟩,⟨rfl,rfl⟩,st',fun b hb=>(hf b hb).1⟩⟩
  rw [Int.mul_one]
 done:=by
  intro X hP hw hK hc i pins s σ H E I hf st hg
  subst hP hw hK
  obtain ⟨f0,f1,f2,f3,f4,f5⟩:=hf it (by simp)
  exact wpAny_pyNext_range_end (I.ok.hd hc) st (by have:n≤i:=hg; omega) fun h' eb=>⟨rfl,I.turned (t':=s.toks) (fun b o hb e=>eb b o hb e) f0 f1 f3 f4 f5⟩
 self:=fun _ _ _ _ _ st h=>wpAny_pyIter_rangeiter st h
end L2
namespace L2
open PySem PySem.Spec PyProof.Rows
section
variable {X:Cx} {tg:Expr}
theorem range_it {pins:List (Addr×Obj)} {σ:St} {H:Hp} {s:Shared} {R:It→Hp→Prop} {E:Value→Shared→Prop} {lo hi:Int} {t u v:Tok} {tk:Nat} (I:Inv X pins σ H s) (h1 : -(2 ^ 62)≤lo) (h2:lo < 2 ^ 62) (h3 : -(2 ^ 62)≤hi) (h4:hi < 2 ^ 62)
  (q:R (Itr lo (hi - lo).toNat) H):wpAny (model X.prog X.w) X.A (pyIter (.ref s.heap.objs.size)) (PIE X pins σ tg R) E { s with heap:=s.heap.push { cls:=.type "range",data:=.fields #[.int lo t,.int hi u,.int 1 v] },toks:=tk }:=by
 refine wpAny_pyIter_range (IsRange.new ..) (small_one h1 h2 h3 h4) ?_
 have I1:Inv X pins σ H { s with heap:=s.heap.push { cls:=.type "range",data:=.fields #[.int lo t,.int hi u,.int 1 v] },toks:=tk }:=I.kept fun b o e=>Heap.get?_push_of_some _ e
 refine ⟨(s.heap.push { cls:=.type "range",data:=.fields #[.int lo t,.int hi u,.int 1 v] }).objs.size,[(s.heap.push { cls:=.type "range",data:=.fields #[.int lo t,.int hi u,.int 1 v] }).objs.size],_,_,H,rfl,
  I1.kept (t':=tk) fun b o e=>Heap.get?_push_of_some _ e,turn_range _ lo (hi - lo).toNat,?_,fun b hb=>?_,q⟩
 · have e1:lo+((0:Nat):Int) * 1=lo:=by simp
   have e2:(((hi - lo).toNat:Nat):Int) - ((0:Nat):Int)=Builtin.Range.rangeSize lo hi 1:=by rw [rangeSize_one]; split <;> omega
   show IsRangeIter _ _ (lo+((0:Nat):Int) * 1) ((((hi - lo).toNat:Nat):Int) - ((0:Nat):Int)) 1
   rw [e1,e2]
   exact Heap.get?_push_size _ rfl
 · have e:b=(s.heap.push { cls:=.type "range",data:=.fields #[.int lo t,.int hi u,.int 1 v] }).objs.size:=by simpa using hb
   subst e
   exact I1.fpOk (Nat.le_refl _) (I1.hok.fresh (Nat.le_refl _))
noncomputable def iRng1 (ta:TA):TI:=fun σ H R=>ta σ H fun vs H1=>∃ j:Int,vs=[.int j]∧-(2 ^ 62)≤j∧j < 2 ^ 62∧R (Itr 0 j.toNat) H1
theorem pi_range1 {a:Expr} {ta:TA} {p pos:Pos} (hg:Gl X "range") (hm:X.mg "range" = none) (ha:PA X [a] ta) (hs:starEach [a] X.env=[(false,eval a X.env)]:=by rfl):PI X tg (.Call (.Name "range" p) [a] [] pos) (iRng1 ta):=by
 intro pins s σ H R I h
 refine Call_ (ld_blt I hg hm boot_range (PyProof.Rows.callWith_type1 (thn (ha pos pins s σ H _ I h) fun us s1 ⟨vs,H1,I1,r1,q1⟩=>?_) hs rfl))
 obtain ⟨j,e,q1,q2,q⟩:=q1
 subst e
 cases r1 with
 | cons r rr =>
   cases rr
   obtain ⟨t,rfl⟩:=r
   exact call_range_1 (range_it I1 (by omega) (by omega) q1 q2 (by simpa using q))
noncomputable def tFor (wi:TI) (g:TG) (tb:TS):TS:=fun D σ H=>wi σ H fun J H1=>∃ W:Nat→Nat→St→Hp→Prop,(∃ m,W 0 m σ H1)∧∀ i m σ H,W i m σ H →
 (J.stop i H∧D.nx σ H)∨(J.go i H∧∃ N:St→Hp→Prop,(∀ σ' H',N σ' H'→∃ m',m' < m∧W (i+1) m' σ' H')∧∀ x H',J.yld i H x H'→g x σ H' fun σ2 H2=>tb { D with nx:=N,ct:=N,bk:=D.nx } σ2 H2)
noncomputable def pinsAt (fp:List Addr) (h:Heap):List (Addr×Obj):=fp.filterMap fun b=>(h.get? b).map fun o=>(b,o)
theorem mem_pinsAt {fp:List Addr} {h:Heap} {b:Addr} {o:Obj} (hb:b∈fp) (e:h.get? b=some o):(b,o)∈pinsAt fp h:=List.mem_filterMap.mpr ⟨b,hb,by rw [e]; rfl⟩
theorem of_pinsAt {fp:List Addr} {h:Heap} {p:Addr×Obj} (hp:p∈pinsAt fp h):p.1∈fp∧h.get? p.1=some p.2:=by
 obtain ⟨b,hb,e⟩:=List.mem_filterMap.mp hp
 cases q:h.get? b with
 | none=>rw [q] at e; cases e
 | some o =>
   rw [q] at e
   have e':(b,o)=p:=Option.some.inj e
   subst e'
   exact ⟨hb,q⟩
theorem Inv.pinned {pins:List (Addr×Obj)} {σ:St} {H:Hp} {s:Shared} {fp:List Addr} (I:Inv X pins σ H s) (hf:∀ b∈fp,FpOk X pins H b) (ho:∀ b∈fp,∃ o,s.heap.get? b=some o∧∀ v,o.data≠.cell v):Inv X (pins ++ pinsAt fp s.heap) σ H s :=
 I.pins_of fun p hp=>(List.mem_append.mp hp).elim (fun z=>I.pin p (List.mem_append_right _ z)) fun z=>by
  obtain ⟨hb,e⟩:=of_pinsAt z
  obtain ⟨f0,f1,f2,_⟩:=hf p.1 hb
  obtain ⟨o,e',d⟩:=ho p.1 hb
  rw [e] at e'; cases e'
  exact ⟨e,f0,f1,f2,d⟩
theorem Inv.unpinned {pins pl:List (Addr×Obj)} {σ:St} {H:Hp} {s:Shared} (I:Inv X (pins ++ pl) σ H s):Inv X pins σ H s:=I.pins_of fun p hp=>I.pin p (List.mem_append_right _ (List.mem_append_left _ hp))
theorem ps_for {iter:Expr} {body:List Stmt} {wi:TI} {g:TG} {tb:TS} {pos:Pos} (hp:PassesOwn (model X.prog X.w) X.A X.env X.xe) (hc:X.calm=true) (hi:PI X tg iter wi) (hg:PG X tg g) (hb:PSs X body tb)
  (hs:∀ x,foldedSetIterable iter X.env x=pure x:=by intro _; rfl):PS X (.For tg iter body [] pos) (tFor wi g tb):=by
 intro pins s σ H D I h
 refine wpAny_For (thn (hi pins s σ H _ I h) fun v s1 h1=>thn h1 fun itv s2 h2=>?_) hs
 obtain ⟨it,fp,tn,J,H2,e,I2,T,st2,f2,W,⟨m0,w0⟩,turn⟩:=h2
 subst e
 have stat:∀ {H':Hp},(∀ b∈fp,H' b=none)→∀ b∈fp,FpOk X pins H' b:=fun hn b hb=>⟨hn b hb,(f2 b hb).2⟩
 refine codeAny_forLoop_any (fun n s'=>∃ i σ' H',Inv X pins σ' H' s'∧tn i s'.heap∧(∀ b∈fp,H' b=none)∧W i n σ' H') ?_ m0 ⟨0,σ,H2,I2,st2,fun b hb=>(f2 b hb).1,w0⟩
 rintro n s3 ⟨i,σ3,H3,I3,st3,fr3,w3⟩
 rcases turn i n σ3 H3 w3 with ⟨stop,qn⟩ | ⟨go,N,hN,step⟩
 · refine wpAny_passesOwn hp (thn (T.done X rfl rfl rfl hc i pins s3 σ3 H3 X.xe I3 (stat fr3) st3 stop) fun r s4 ⟨hr,I4⟩=>?_)
   subst hr
   exact wpAny_execs_nil ⟨σ3,H3,I4,qn⟩
 · refine wpAny_passesOwn hp (thn (T.item X rfl rfl rfl hc i pins s3 σ3 H3 X.xe I3 (stat fr3) st3 go) fun r s4 ⟨u,hr,h4⟩=>?_)
   subst hr
   refine wpAny_passesOwn hp (thn h4 fun _ s5 ⟨x,H5,I5,r5,y5,st5,fr5⟩=>?_)
   have I5':=I5.pinned (stat fr5) (T.obj _ _ st5)
   refine wpAny_passesOwn hp (thn (hg _ s5 σ3 H5 x u _ I5' r5 (step x H5 y5)) fun _ s6 ⟨σ6,H6,I6,q6⟩=>?_)
   refine wpAny_passesOwn hp (thn (hb _ s6 σ6 H6 _ I6 q6) fun f s7 q7=>?_)
   have again:∀ {σ7:St} {H7:Hp},Inv X (pins ++ pinsAt fp s5.heap) σ7 H7 s7→N σ7 H7→∃ m,m < n∧∃ i σ' H',Inv X pins σ' H' s7∧tn i s7.heap∧(∀ b∈fp,H' b=none)∧W i m σ' H':=fun {σ7 H7} I7 n7=>by
    obtain ⟨m',hm,w7⟩:=hN σ7 H7 n7
    refine ⟨m',hm,i+1,σ7,H7,I7.unpinned,T.keep _ _ _ st5 fun b hb o e=>(I7.pin (b,o) (List.mem_append_right _ (List.mem_append_right _ (mem_pinsAt hb e)))).1,fun b hb=>?_,w7⟩
    obtain ⟨o,e,d⟩:=T.obj _ _ st5 b hb
    exact (I7.pin (b,o) (List.mem_append_right _ (List.mem_append_right _ (mem_pinsAt hb e)))).2.1
   cases f with
   | next=>obtain ⟨σ7,H7,I7,n7⟩:=q7; exact again I7 n7
   | cont=>obtain ⟨σ7,H7,I7,n7⟩:=q7; exact again I7 n7
   | brk=>obtain ⟨σ7,H7,I7,q7⟩:=q7; exact ⟨σ7,H7,I7.unpinned,q7⟩
   | ret v=>obtain ⟨x7,σ7,H7,I7,r7,q7⟩:=q7; exact ⟨x7,σ7,H7,I7.unpinned,r7,q7⟩
end
end L2
namespace L2
open PySem PySem.Spec PyProof.Rows
noncomputable abbrev R2:=V→V→Hp→VK→Prop
noncomputable def OpR (X:Cx) (f:Value→Value→Sem Value) (r:R2):Prop :=
 ∀ (pins:List (Addr×Obj)) (s:Shared) (σ:St) (H:Hp) (x y:V) (v u:Value) (Q:VK),Inv X pins σ H s→RelV x v→RelV y u→r x y H Q →
  wpAny (model X.prog X.w) X.A (f v u) (EP X pins σ Q) X.xe s
noncomputable def UnR (X:Cx) (f:Value→Sem Value) (r:V→Hp→VK→Prop):Prop :=
 ∀ (pins:List (Addr×Obj)) (s:Shared) (σ:St) (H:Hp) (x:V) (v:Value) (Q:VK),Inv X pins σ H s→RelV x v→r x H Q →
  wpAny (model X.prog X.w) X.A (f v) (EP X pins σ Q) X.xe s
noncomputable def CallR (X:Cx) (f:Value) (r:List V→Hp→VK→Prop):Prop :=
 ∀ (pins:List (Addr×Obj)) (s:Shared) (σ:St) (H:Hp) (xs:List V) (us:List Value) (Q:VK),Inv X pins σ H s→Vals xs us→r xs H Q →
  wpAny (model X.prog X.w) X.A (call f us) (EP X pins σ Q) X.xe s
noncomputable def tOp (r:R2) (ta tb:TE):TE:=fun σ H Q=>ta σ H fun x H1=>tb σ H1 fun y H2=>r x y H2 Q
noncomputable def tUn (r:V→Hp→VK→Prop) (ta:TE):TE:=fun σ H Q=>ta σ H fun x H1=>r x H1 Q
noncomputable def rI (C:Int→Int→Prop) (g:Int→Int→V):R2:=fun x y H Q=>∃ i j,x = .int i∧y = .int j∧C i j∧Q (g i j) H
noncomputable def rI0 (g:Int→Int→V):R2:=fun x y H Q=>∃ i j,x = .int i∧y = .int j∧Q (g i j) H
noncomputable def rU (g:Int→V):V→Hp→VK→Prop:=fun x H Q=>∃ i,x = .int i∧Q (g i) H
section
variable {X:Cx} {a b c:Expr} {ta tb tc:TE} {pos:Pos}
theorem binT (ha:PE X a ta) (hb:PE X b tb) {pins:List (Addr×Obj)} {s:Shared} {σ:St} {H:Hp} {R:V→V→Hp→Prop} (I:Inv X pins σ H s)
  (h:ta σ H fun x H1=>tb σ H1 fun y H2=>R x y H2) {Q:Value→Shared→Prop} {f:Value→Value→Sem Value}
  (hf:∀ v u s2 x y H2,Inv X pins σ H2 s2→RelV x v→RelV y u→R x y H2→wpAny (model X.prog X.w) X.A (f v u) Q X.xe s2) :
  wpAny (model X.prog X.w) X.A (eval a X.env) (fun v s₁=>wpAny (model X.prog X.w) X.A (eval b X.env) (fun u s₂=>wpAny (model X.prog X.w) X.A (f v u) Q X.xe s₂) X.xe s₁) X.xe s:=by
 refine thn (ha pins s σ H _ I h) fun v s1 ⟨x,H1,I1,r1,q1⟩=>?_
 refine thn (hb pins s1 σ H1 _ I1 q1) fun u s2 ⟨y,H2,I2,r2,q2⟩=>?_
 exact hf v u s2 x y H2 I2 r1 r2 q2
theorem pe_op {op:Operator} {r:R2} (ho:OpR X (binaryOp op) r) (ha:PE X a ta) (hb:PE X b tb):PE X (.BinOp a op b pos) (tOp r ta tb):=by
 intro pins s σ H Q I h
 exact wpAny_BinOp (binT ha hb I h fun v u s2 x y H2 I2 rx ry q=>ho pins s2 σ H2 x y v u Q I2 rx ry q)
theorem pe_un {op:UnaryOp} {r:V→Hp→VK→Prop} (ho:UnR X (unaryOp op) r) (ha:PE X a ta):PE X (.UnaryOp op a pos) (tUn r ta):=by
 intro pins s σ H Q I h
 exact UnaryOp_ (thn (ha pins s σ H _ I h) fun v s1 ⟨x,H1,I1,r1,q1⟩=>ho pins s1 σ H1 x v Q I1 r1 q1)
theorem opI {f:Value→Value→Sem Value} {C:Int→Int→Prop} {g:Int→Int→Int}
  (rule:∀ (i j:Int) (t u:Tok) (s:Shared) (Q:Value→Shared→Prop) (E:Value→Shared→Prop),C i j→Q (.int (g i j) s.toks) { s with toks:=s.toks+1 }→wpAny (model X.prog X.w) X.A (f (.int i t) (.int j u)) Q E s) :
  OpR X f (rI C fun i j=>.int (g i j)):=by
 intro pins s σ H x y v u Q I rx ry h
 obtain ⟨i,j,rfl,rfl,hc,q⟩:=h
 obtain ⟨t,rfl⟩:=rx
 obtain ⟨t',rfl⟩:=ry
 exact rule i j t t' s _ _ hc ⟨.int (g i j),H,I.tok _,⟨_,rfl⟩,q⟩
theorem opI0 {f:Value→Value→Sem Value} {g:Int→Int→Int}
  (rule:∀ (i j:Int) (t u:Tok) (s:Shared) (Q:Value→Shared→Prop) (E:Value→Shared→Prop),Q (.int (g i j) s.toks) { s with toks:=s.toks+1 }→wpAny (model X.prog X.w) X.A (f (.int i t) (.int j u)) Q E s) :
  OpR X f (rI0 fun i j=>.int (g i j)):=by
 intro pins s σ H x y v u Q I rx ry h
 obtain ⟨i,j,rfl,rfl,q⟩:=h
 obtain ⟨t,rfl⟩:=rx
 obtain ⟨t',rfl⟩:=ry
 exact rule i j t t' s _ _ ⟨.int (g i j),H,I.tok _,⟨_,rfl⟩,q⟩
theorem opB0 {f:Value→Value→Sem Value} {g:Int→Int→Bool}
  (rule:∀ (i j:Int) (t u:Tok) (s:Shared) (Q:Value→Shared→Prop) (E:Value→Shared→Prop),Q (.bool (g i j)) s→wpAny (model X.prog X.w) X.A (f (.int i t) (.int j u)) Q E s) :
  OpR X f (rI0 fun i j=>.bl (g i j)):=by
 intro pins s σ H x y v u Q I rx ry h
 obtain ⟨i,j,rfl,rfl,q⟩:=h
 obtain ⟨t,rfl⟩:=rx
 obtain ⟨t',rfl⟩:=ry
 exact rule i j t t' s _ _ ⟨.bl (g i j),H,I,rfl,q⟩
noncomputable def CDiv (i j:Int):Prop:=0 < j∧j < 1073741824
noncomputable def CPow (i j:Int):Prop:=0≤j∧j≤1000000∧i.natAbs < 2 ^ 64
noncomputable def CMul (i j:Int):Prop:=(-(2 ^ 64) < i∧i < 2 ^ 64)∨(-(2 ^ 64) < j∧j < 2 ^ 64)
theorem CMul.ok {i j:Int} (h:CMul i j):IntMulOk i j:=by
 rcases h with ⟨h1,h2⟩ | ⟨h1,h2⟩
 · exact .of_left (intBits_le_64 h1 h2)
 · exact .of_right (intBits_le_64 h1 h2)
theorem op_add:OpR X (binaryOp .Add) (rI0 fun i j=>.int (i+j)):=opI0 fun _ _ _ _ _ _ _ q=>add_int q
theorem op_sub:OpR X (binaryOp .Sub) (rI0 fun i j=>.int (i - j)):=opI0 fun _ _ _ _ _ _ _ q=>sub_int q
theorem op_mul:OpR X (binaryOp .Mult) (rI CMul fun i j=>.int (i * j)):=opI fun _ _ _ _ _ _ _ hc q=>mul_int q hc.ok
theorem op_fdiv:OpR X (binaryOp .FloorDiv) (rI CDiv fun i j=>.int (i / j)):=opI fun i j _ _ _ _ _ hc q=>by
 have h1:(0:Int) < j:=hc.1
 have h2:j < 1073741824:=hc.2
 exact floordiv_int (by omega) (by rw [Int.fdiv_eq_ediv_of_nonneg i (by omega)]; exact q) (.inl (PyProof.noPylong_small (by omega)))
theorem op_mod:OpR X (binaryOp .Mod) (rI (fun _ j=>0 < j) fun i j=>.int (i % j)):=opI fun i j _ _ _ _ _ hc q=>by
 have h1:(0:Int) < j:=hc
 exact mod_int' (by omega) (by rw [Int.fmod_eq_emod_of_nonneg i (by omega)]; exact q)
theorem op_pow:OpR X (binaryOp .Pow) (rI CPow fun i j=>.int (i ^ j.toNat)):=opI fun _ _ _ _ _ _ _ hc q=>pow_int_small hc.1 hc.2.1 hc.2.2 q
theorem op_shl:OpR X (binaryOp .LShift) (rI CPow fun i j=>.int (i * 2 ^ j.toNat)):=opI fun _ _ _ _ _ _ _ hc q=>lshift_int_small hc.1 hc.2.1 hc.2.2 q
theorem op_or:OpR X (binaryOp .BitOr) (rI0 fun i j=>.int (Builtin.bitOr i j)):=opI0 fun _ _ _ _ _ _ _ q=>or_int q
theorem iop_add:OpR X (inplaceOp .Add) (rI0 fun i j=>.int (i+j)):=opI0 fun _ _ _ _ _ _ _ q=>iadd_int q
theorem iop_or:OpR X (inplaceOp .BitOr) (rI0 fun i j=>.int (Builtin.bitOr i j)):=opI0 fun _ _ _ _ _ _ _ q=>ior_int q
theorem unI {f:Value→Sem Value} {g:Int→Int}
  (rule:∀ (i:Int) (t:Tok) (s:Shared) (Q:Value→Shared→Prop) (E:Value→Shared→Prop),Q (.int (g i) s.toks) { s with toks:=s.toks+1 }→wpAny (model X.prog X.w) X.A (f (.int i t)) Q E s) :
  UnR X f (rU fun i=>.int (g i)):=by
 intro pins s σ H x v Q I rx h
 obtain ⟨i,rfl,q⟩:=h
 obtain ⟨t,rfl⟩:=rx
 exact rule i t s _ _ ⟨.int (g i),H,I.tok _,⟨_,rfl⟩,q⟩
theorem un_neg:UnR X (unaryOp .USub) (rU fun i=>.int (-i)):=unI fun _ _ _ _ _ q=>neg_int q
end
section
variable {X:Cx} {a b c:Expr} {ta tb tc:TE} {pos:Pos}
theorem fin_bl {pins:List (Addr×Obj)} {σ:St} {H:Hp} {s:Shared} {Q:VK} {k k':Bool} (I:Inv X pins σ H s) (q:Q (.bl k) H) (e:k=k'):EP X pins σ Q (.bool k') s:=by
 subst e
 exact ⟨.bl k,H,I,rfl,q⟩
theorem op_lt:OpR X (compareOp .Lt) (rI0 fun i j=>.bl (decide (i < j))):=opB0 fun _ _ _ _ _ _ _ q=>lt_int q
theorem op_gt:OpR X (compareOp .Gt) (rI0 fun i j=>.bl (decide (j < i))):=opB0 fun _ _ _ _ _ _ _ q=>gt_int q
theorem op_in_str:OpR X (compareOp .In) (fun x y H Q=>∃ i j,x = .str i∧y = .str j∧Q (.bl (!(Builtin.Str.occurrences j i 0 j.length 1).isEmpty)) H):=by
 intro pins s σ H x y v u Q I rx ry h
 obtain ⟨i,j,rfl,rfl,q⟩:=h
 obtain ⟨t,rfl⟩:=rx
 obtain ⟨t',rfl⟩:=ry
 exact in_str (fin_bl I q rfl)
theorem op_isN:OpR X (compareOp .Is) (fun x y H Q=>y = .non∧Q (.bl (decide (x = .non))) H):=by
 intro pins s σ H x y v u Q I rx ry h
 obtain ⟨rfl,q⟩:=h
 cases ry
 refine is_none_gen (fin_bl I q ?_)
 cases x <;> first
  | (cases rx; rfl)
  | (obtain ⟨t,rfl⟩:=rx; rfl)
theorem op_notN:OpR X (compareOp .IsNot) (fun x y H Q=>y = .non∧Q (.bl (!decide (x = .non))) H):=by
 intro pins s σ H x y v u Q I rx ry h
 obtain ⟨rfl,q⟩:=h
 cases ry
 refine isnot_none_gen (fin_bl I q ?_)
 cases x <;> first
  | (cases rx; rfl)
  | (obtain ⟨t,rfl⟩:=rx; rfl)
theorem OpR.or {f:Value→Value→Sem Value} {r r':R2} (h:OpR X f r) (h':OpR X f r'):OpR X f (fun x y H Q=>r x y H Q∨r' x y H Q):=by
 intro pins s σ H x y v u Q I rx ry q
 rcases q with q | q
 · exact h pins s σ H x y v u Q I rx ry q
 · exact h' pins s σ H x y v u Q I rx ry q
theorem nomark (b:Expr) {op:CmpOp} (h:op≠.In:=by decide) (h2:op≠.NotIn:=by decide):behindInMarks op b=false:=by
 have e1:(op == CmpOp.In)=false:=by cases op <;> first | rfl | exact absurd rfl h
 have e2:(op == CmpOp.NotIn)=false:=by cases op <;> first | rfl | exact absurd rfl h2
 cases b <;> simp [behindInMarks,e1,e2]
theorem pe_cmpR {op:CmpOp} {r:R2} (ho:OpR X (compareOp op) r) (ha:PE X a ta) (hb:PE X b tb) (hm:behindInMarks op b=false):PE X (.Compare a [op] [b] pos) (tOp r ta tb):=by
 intro pins s σ H Q I h
 exact wpAny_Compare1 (binT ha hb I h fun v u s2 x y H2 I2 rx ry q=>ho pins s2 σ H2 x y v u Q I2 rx ry q) hm
noncomputable def tTest (t:TE):TT:=fun σ H Q=>t σ H fun x H'=>∃ k,x = .bl k∧Q k H'
theorem pt_cmpR {op:CmpOp} {r:R2} (ho:OpR X (compareOp op) r) (ha:PE X a ta) (hb:PE X b tb) (hm:behindInMarks op b=false):PT X (.Compare a [op] [b] pos) (tTest (tOp r ta tb)):=by
 intro pins s σ H Q I h
 refine wpAny_isTrue_Compare1 (thn (ha pins s σ H _ I h) fun v s1 ⟨x,H1,I1,r1,q1⟩=>thn (hb pins s1 σ H1 _ I1 q1) fun u s2 ⟨y,H2,I2,r2,q2⟩ =>
  thn (ho pins s2 σ H2 x y v u _ I2 r1 r2 q2) fun c s3 ⟨z,H3,I3,r3,k,e,q3⟩=>?_) hm
 subst e
 cases r3
 exact wpAny_truthy_bool ⟨H3,I3,q3⟩
theorem line63:(sizeLine:Nat) < 2 ^ 63:=by rw [sizeLine_eq]; decide
theorem op_add_str:OpR X (binaryOp .Add) (fun x y H Q=>∃ i j,x = .str i∧y = .str j∧i.length+j.length≤sizeLine∧Q (.str (i ++ j)) H):=by
 intro pins s σ H x y v u Q I rx ry h
 obtain ⟨i,j,rfl,rfl,hz,q⟩:=h
 obtain ⟨t,rfl⟩:=rx
 obtain ⟨t',rfl⟩:=ry
 exact add_str (fun t' tk=>⟨.str (i ++ j),H,I.tok _,⟨_,rfl⟩,q⟩) hz
theorem vals1 {x:V} {us:List Value} (r:Vals [x] us):∃ u,us=[u]∧RelV x u:=by
 cases r with
 | cons r1 r2=>cases r2; exact ⟨_,rfl,r1⟩
theorem vals2 {x y:V} {us:List Value} (r:Vals [x,y] us):∃ u w',us=[u,w']∧RelV x u∧RelV y w':=by
 cases r with
 | cons r1 r2 =>
   cases r2 with
   | cons r3 r4=>cases r4; exact ⟨_,_,rfl,r1,r3⟩
end
end L2
namespace L2
open PySem PySem.Spec PyProof.Rows
structure ObjM (h:Heap) (x dx C:Addr) (mA:Str→Option Value):Prop where
 obj:h.get? x=some (PySem.W.instObj C dx)
 ns:h.Ns1 dx mA
 ne:dx≠x
theorem lookIn_ns {h:Heap} {dx:Addr} {mA:Str→Option Value} (n:h.Ns1 dx mA):∃ od,h.get? dx=some od∧∀ name,PySem.W.lookIn name od=some (mA name):=by
 obtain ⟨o,es,ep,ho,hd,hk,_,hm⟩:=n
 refine ⟨o,ho,fun name=>?_⟩
 have e:=hm name
 unfold nsFind findBy at e
 rw [← Array.find?_toList] at e
 unfold PySem.W.lookIn
 rw [hd]
 dsimp only
 split
 · rename_i y q
   rw [q] at e
   exact congrArg some e
 · rename_i q
   rw [q] at e
   have a:es.toList.any (·.refKey)=false:=by
    rw [List.any_eq_false]
    intro y hy
    obtain ⟨z,t,hkey⟩:=hk y (Array.mem_toList_iff.mp hy)
    simp [DictEntry.refKey,hkey]
   have a':¬ es.toList.any (·.refKey)=true:=by rw [a]; exact Bool.false_ne_true
   rw [if_neg a']
   exact congrArg some e
theorem ObjM.look {h:Heap} {x dx C:Addr} {mA:Str→Option Value} (I:ObjM h x dx C mA):∃ od,PySem.W.InstAt h x (PySem.W.instObj C dx) C (some od)∧∀ name,PySem.W.lookIn name od=some (mA name) :=
 let ⟨od,ho,hl⟩:=lookIn_ns I.ns
 ⟨od,⟨I.obj,rfl,rfl,ho⟩,hl⟩
section
variable {prog:Program} {w:World} {A:Around} {E:Value→Shared→Prop} {s:Shared} {K:PySem.W.Frag} {x dx C f:Addr} {mA:Str→Option Value} {name:Str} {v:Value}
theorem get_map {expr:Bool} {Q:Value→Shared→Prop} (X:K.In s.heap) (I:ObjM s.heap x dx C mA) (hg:PySem.W.plainGet K C name=true) (hh:PySem.W.hasDictIn K C=true)
  (ha:PySem.W.findIn K (.ref C) name=some none) (hv:mA name=some v) (hv':PySem.W.handedIn v=true) (h:Q v { s with toks:=s.toks+1 }) :
  wpAny (model prog w) A (getAttr (.ref x) name expr) Q E s:=by
 obtain ⟨od,J,hl⟩:=I.look
 exact PySem.W.get_value X J (PySem.W.plainGet_of hg).1 (PySem.W.findObj_own hh ha rfl (by rw [hl,hv])) hv' h
theorem set_map {ns:List Str} {Q:Unit→Shared→Prop} (X:K.In s.heap) (I:ObjM s.heap x dx C mA)
  (hs:PySem.W.findIn K (.ref C) "__setattr__" = some (some (.builtin "object.__setattr__"))) (hp:PySem.W.plainOver K C=true) (ht:PySem.W.takerIn K C name=some none) (hh:PySem.W.hasDictIn K C=true)
  (hw:PySem.Within mA ns) (hsz:ns.length≤sizeLine)
  (h:∀ h',ObjM h' x dx C (fun y=>if y=name then some v else mA y)→Heap.SameBut dx s.heap h'→Q () { s with heap:=h',toks:=s.toks+2 }) :
  wpAny (model prog w) A (setAttr (.ref x) name v) Q E s:=by
 obtain ⟨od,J,hl⟩:=I.look
 refine PySem.W.set_plain X J hs (PySem.W.osa_open (s:={ s with toks:=s.toks+1 }) (r:=none) X J hp ht fun b=>?_)
 obtain ⟨cd,hc,hd'⟩:=PySem.W.any_some hh
 have hx:s.heap.get? x=some ⟨.ref C,some dx,.plain,#[]⟩:=I.obj
 refine wpAny_bind (wpAny_pure (wpAny_bind (wpAny_bind (wpAny_loadPart hx (wpAny_bind (PySem.W.Looks.here (s:={ s with toks:=s.toks+1 }) (PySem.W.looks_clsIn X hc) ?_))))))
 rw [hd']
 refine wpAny_pure (a:=some dx) (wpAny_bind (wpAny_pure (wpAny_bind ?_)))
 refine wpAny_nsSet1 (s:={ s with toks:=s.toks+1 }) I.ns fun h' hn2 hs2=>?_
 obtain ⟨oD,esD,epD,hoD,hdD,hcD⟩:=hn2.count (PySem.Within.cons name v hw)
 refine wpAny_bind (wpAny_lookBehind hoD (by rw [hdD]; exact pastItsLine_dict (Nat.le_trans hcD (by rw [List.length_cons]; omega))) ?_)
 exact wpAny_pure (h _ ⟨(hs2.2 _ (Ne.symm I.ne)).trans I.obj,hn2,I.ne⟩ hs2)
theorem make_map {R:Result→Shared→Prop} {vs:List Value} {kw:List (Str×Value)} (X:K.In s.heap) (hm:PySem.W.makesIn K C=true)
  (hi:PySem.W.findIn K (.ref C) "__init__" = some (some (.ref f))) (hf:PySem.W.typeIn K (.ref f)=some (.type "function"))
  (h:codeAny (model prog w) (A.under (.builtin "type.__call__" ⟨.ref C :: vs,kw⟩)) (.call (.ref f) ⟨.ref (s.heap.objs.size+1) :: vs,kw⟩) (PySem.W.InitBack (s.heap.objs.size+1) R)
    { s with heap:=(s.heap.push PySem.W.emptyDict).push (PySem.W.instObj C s.heap.objs.size) }) :
  codeAny (model prog w) A (.call (.ref C) ⟨vs,kw⟩) R s:=by
 obtain ⟨hh,g,d,t,os⟩:=s
 exact PySem.W.make_core (PySem.W.makes_of X hm) (PySem.W.looks_findIn X hi) (fun self=>PySem.W.bind_fn X self hf) (.inl rfl) h
end
noncomputable def putF (f:Str) (v:V):List (Str×V)→List (Str×V)
 | []=>[(f,v)]
 | (g,x) :: r=>if g=f then (g,v) :: r else (g,x) :: putF f v r
theorem lookup_putF (f g:Str) (v:V):∀ fs:List (Str×V),(putF f v fs).lookup g=if g=f then some v else fs.lookup g
 | []=>by
   show List.lookup g [(f,v)]=_
   by_cases h:g=f
   · have hb:(g == f)=true:=beq_iff_eq.mpr h
     simp only [List.lookup,hb,if_pos h]
   · have hb:(g == f)=false:=beq_eq_false_iff_ne.mpr h
     simp only [List.lookup,hb,if_neg h]
 | (k,x) :: r=>by
   have ih:=lookup_putF f g v r
   rw [show putF f v ((k,x) :: r)=(if k=f then (k,v) :: r else (k,x) :: putF f v r) from rfl]
   by_cases hk:k=f
   · rw [if_pos hk]
     by_cases h:g=k
     · have hb:(g == k)=true:=beq_iff_eq.mpr h
       simp only [List.lookup,hb,if_pos (h.trans hk)]
     · have hb:(g == k)=false:=beq_eq_false_iff_ne.mpr h
       simp only [List.lookup,hb,if_neg (fun e:g=f=>h (e.trans hk.symm))]
   · rw [if_neg hk]
     by_cases h:g=k
     · have hb:(g == k)=true:=beq_iff_eq.mpr h
       simp only [List.lookup,hb,if_neg (fun e:g=f=>hk (h.symm.trans e))]
     · have hb:(g == k)=false:=beq_eq_false_iff_ne.mpr h
       simp only [List.lookup,hb]
       exact ih
theorem keys_putF (f:Str) (v:V):∀ fs:List (Str×V),f∈(putF f v fs).map (·.1)∧∀ g,g∈fs.map (·.1)→g∈(putF f v fs).map (·.1)
 | []=>⟨by simp [putF],fun g h=>by simp at h⟩
 | (k,x) :: r=>by
   obtain ⟨i1,i2⟩:=keys_putF f v r
   rw [show putF f v ((k,x) :: r)=(if k=f then (k,v) :: r else (k,x) :: putF f v r) from rfl]
   by_cases hk:k=f
   · rw [if_pos hk]
     subst hk
     exact ⟨by simp,fun g h=>by simpa using h⟩
   · rw [if_neg hk]
     refine ⟨?_,fun g h=>?_⟩
     · rw [List.map_cons]
       exact List.mem_cons_of_mem _ i1
     · rw [List.map_cons] at h ⊢
       rcases List.mem_cons.mp h with e | e
       · exact List.mem_cons.mpr (.inl e)
       · exact List.mem_cons_of_mem _ (i2 g e)
theorem length_putF (f:Str) (v:V):∀ fs:List (Str×V),(putF f v fs).length≤fs.length+1
 | []=>by simp [putF]
 | (k,x) :: r=>by
   have ih:=length_putF f v r
   rw [show putF f v ((k,x) :: r)=(if k=f then (k,v) :: r else (k,x) :: putF f v r) from rfl]
   by_cases hk:k=f
   · rw [if_pos hk,List.length_cons,List.length_cons]; omega
   · rw [if_neg hk,List.length_cons,List.length_cons]; omega
theorem RelO.some_of {v:V} {o:Option Value} (r:RelO (some v) o):∃ u,o=some u∧RelV v u:=by
 cases o with
 | none=>exact (show False from r).elim
 | some u=>exact ⟨u,rfl,r⟩
theorem handed_of {v:V} {u:Value} (r:RelV v u):PySem.W.handedIn u=true:=by
 cases v with
 | non=>cases (show u=Value.none from r); rfl
 | bl b=>cases (show u=Value.bool b from r); rfl
 | int i=>obtain ⟨t,e⟩:=(show ∃ t,u=Value.int i t from r); cases e; rfl
 | str x=>obtain ⟨t,e⟩:=(show ∃ t,u=Value.str x t from r); cases e; rfl
 | byt b=>obtain ⟨t,e⟩:=(show ∃ t,u=Value.bytes b t from r); cases e; rfl
 | flt b=>obtain ⟨t,e⟩:=(show ∃ t,u=Value.float b t from r); cases e; rfl
 | ref a=>cases (show u=Value.ref a from r); rfl
 | ty n=>cases (show u=Value.type n from r); rfl
section
variable {P:Program} {w:World} {H H':Hp} {h h':Heap} {a C dx:Addr} {fs fs':List (Str×V)}
theorem ins_get (hok:HOk P w H h) (e:H a=some (.ins C dx fs)):∃ mA,ObjM h a dx C mA∧(∀ f,RelO (fs.lookup f) (mA f))∧PySem.Within mA (fs.map (·.1))∧fs.length≤1000∧H dx=some (.own a):=by
 obtain ⟨d,z,ne,ob,mA,n,r,q⟩:=(show ObjOk P w H h a (.ins C dx fs) from hok a _ e)
 exact ⟨mA,⟨ob,n,ne⟩,r,q,z,d⟩
end
structure Cls (K:PySem.W.Frag) (C:Addr):Prop where
 pg:PySem.W.plainGet K C Str.empty=true
 hd:PySem.W.hasDictIn K C=true
 po:PySem.W.plainOver K C=true
 sa:PySem.W.findIn K (.ref C) "__setattr__" = some (some (.builtin "object.__setattr__"))
theorem Cls.get {K:PySem.W.Frag} {C:Addr} (c:Cls K C) (f:Str):PySem.W.plainGet K C f=true:=c.pg
noncomputable def NoAttr (K:PySem.W.Frag) (C:Addr) (f:Str):Prop:=PySem.W.findIn K (.ref C) f=some none
theorem NoAttr.taker {K:PySem.W.Frag} {C:Addr} {f:Str} (n:NoAttr K C f):PySem.W.takerIn K C f=some none:=by
 unfold PySem.W.takerIn
 rw [show PySem.W.findIn K (.ref C) f=some none from n]
 rfl
section
variable {X:Cx} {pins:List (Addr×Obj)} {σ:St} {H:Hp} {s:Shared} {a C dx:Addr} {fs:List (Str×V)} {f:Str} {v:V} {A:Around} {E:Value→Shared→Prop}
theorem getattr_ok {b:Bool} {Q:Value→Shared→Prop} (I:Inv X pins σ H s) (e:H a=some (.ins C dx fs)) (c:Cls X.K C) (n:NoAttr X.K C f) (l:fs.lookup f=some v)
  (h:∀ u s',Inv X pins σ H s'→RelV v u→Q u s'):wpAny (model X.prog X.w) A (getAttr (.ref a) f b) Q E s:=by
 obtain ⟨mA,O,r,_,_,_⟩:=ins_get I.hok e
 obtain ⟨u,hu,ru⟩:=RelO.some_of (v:=v) (o:=mA f) (by rw [← l]; exact r f)
 exact get_map I.kIn O (c.get f) c.hd n hu (handed_of ru) (h u _ (I.tok _) ru)
theorem setattr_ok {y:V} {u:Value} {Q:Unit→Shared→Prop} (I:Inv X pins σ H s) (e:H a=some (.ins C dx fs)) (c:Cls X.K C) (n:NoAttr X.K C f) (hl:fs.length < 1000) (ry:RelV y u)
  (h:∀ s',Inv X pins σ (upd H a (.ins C dx (putF f y fs))) s'→Q () s'):wpAny (model X.prog X.w) A (setAttr (.ref a) f u) Q E s:=by
 obtain ⟨mA,O,r,wi,_,ho⟩:=ins_get I.hok e
 have hz:(fs.map (·.1)).length≤sizeLine:=by rw [List.length_map,sizeLine_eq]; omega
 refine set_map I.kIn O c.sa c.po n.taker c.hd wi hz fun h' O' sb=>h _ ?_
 have hd:∃ o,h'.get? dx=some o:=let ⟨o,_,_,e',_⟩:=O'.ns; ⟨o,e'⟩
 refine I.write (x:=a) (e:=dx) (by rw [e]; exact True.intro) (.inr ho) (fun b q hb z=>(sb.2 b hb).trans z) hd ?_
 refine ⟨by rw [upd_ne O.ne]; exact ho,?_,O.ne,O'.obj,_,O'.ns,fun g=>?_,fun g hg=>?_⟩
 · have:=length_putF f y fs; omega
 · show RelO ((putF f y fs).lookup g) (if g=f then some u else mA g)
   rw [lookup_putF]
   by_cases q:g=f
   · rw [if_pos q,if_pos q]; exact ry
   · rw [if_neg q,if_neg q]; exact r g
 · by_cases q:g=f
   · rw [q]; exact (keys_putF f y fs).1
   · refine (keys_putF f y fs).2 g (wi g fun z=>hg ?_)
     show (if g=f then some u else mA g)=none
     rw [if_neg q]; exact z
theorem Inv.made (I:Inv X pins σ H s):Inv X pins σ (upd (upd H s.heap.objs.size (.own (s.heap.objs.size+1))) (s.heap.objs.size+1) (.ins C s.heap.objs.size []))
  { s with heap:=(s.heap.push PySem.W.emptyDict).push (PySem.W.instObj C s.heap.objs.size) }:=by
 have e1:(s.heap.push PySem.W.emptyDict).get? s.heap.objs.size=some PySem.W.emptyDict:=Heap.get?_push_size s.heap rfl
 have e2:((s.heap.push PySem.W.emptyDict).push (PySem.W.instObj C s.heap.objs.size)).get? (s.heap.objs.size+1)=some (PySem.W.instObj C s.heap.objs.size):=by
  have:=Heap.get?_push_size (s.heap.push PySem.W.emptyDict) (o:=PySem.W.instObj C s.heap.objs.size) rfl
  rwa [Heap.size_push] at this
 have e3:(s.heap.push PySem.W.emptyDict).Ns s.heap.objs.size (fun _=>none):=⟨PySem.W.emptyDict,#[],_,e1,rfl,(fun e he=>absurd he (by simp)),fun _=>rfl⟩
 have I1:=I.laid (a:=s.heap.objs.size) (o:=.own (s.heap.objs.size+1)) (h':=s.heap.push PySem.W.emptyDict) (t':=s.toks) (fun b u q=>Heap.get?_push_of_some _ q) (Nat.le_refl _) ⟨_,e1⟩
 refine I1.laid (a:=s.heap.objs.size+1) (o:=.ins C s.heap.objs.size []) (t':=s.toks) (fun b u q=>Heap.get?_push_of_some _ q) (Nat.le_of_eq (Heap.size_push _ _)) ?_
 have ne:s.heap.objs.size≠s.heap.objs.size+1:=Nat.ne_of_lt (Nat.lt_succ_self _)
 refine ⟨by rw [upd_ne ne,upd_same],Nat.zero_le _,ne,e2,fun _=>none,(Heap.Ns1.of_empty e3).at fun o q=>Heap.get?_push_of_some _ q,fun _=>True.intro,fun y hy=>absurd rfl hy⟩
theorem attr_of {prog:Program} {w:World} {env:Env} {e:Expr} {f:Str} {pos:Pos} {s:Shared} {Q:Value→Shared→Prop} (hb:attributeBase e f env (eval e env)=eval e env)
  (h:wpAny (model prog w) A (eval e env) (fun o s₁=>wpAny (model prog w) A (getAttr o f true) Q E s₁) E s):wpAny (model prog w) A (eval (.Attribute e f pos) env) Q E s :=
 Attribute_any_ h (by rw [arm_eval_Attribute,hb])
end
noncomputable def tFld (K:PySem.W.Frag) (ta:TE) (f:Str):TE:=fun σ H Q=>ta σ H fun x H1=>∃ a C dx fs v,x = .ref a∧H1 a=some (.ins C dx fs)∧Cls K C∧NoAttr K C f∧fs.lookup f=some v∧Q v H1
noncomputable def sFld (K:PySem.W.Frag) (ta tv:TE) (f:Str):TS:=fun D σ H=>tv σ H fun y H1=>ta σ H1 fun x H2=>∃ a C dx fs,x = .ref a∧H2 a=some (.ins C dx fs)∧Cls K C∧NoAttr K C f∧fs.length < 1000 ∧
 D.nx σ (upd H2 a (.ins C dx (putF f y fs)))
section
variable {X:Cx} {o e value:Expr} {f:Str} {pos pos' tpos:Pos} {ta tv:TE}
theorem pe_fld (he:PE X e ta) (hb:attributeBase e f X.env (eval e X.env)=eval e X.env):PE X (.Attribute e f pos) (tFld X.K ta f):=by
 intro pins s σ H Q I h
 refine attr_of hb (thn (he pins s σ H _ I h) fun u s1 ⟨x,H1,I1,rx,a,C,dx,fs,v,ex,ea,c,n,l,q⟩=>?_)
 subst ex
 obtain rfl:u=Value.ref a:=rx
 exact getattr_ok I1 ea c n l fun u' s2 I2 ru=>⟨v,H1,I2,ru,q⟩
theorem ps_fld (ha:PE X o ta) (hv:PE X value tv) (hs:swapsWith value (some (.Attribute o f pos')) pos.line X.env=pure false):PS X (.Assign [.Attribute o f pos'] value pos) (sFld X.K ta tv f):=by
 intro pins s σ H D I h
 refine plainObj_wpAny_Assign_Attribute (thn (hv pins s σ H _ I h) fun u s1 ⟨y,H1,I1,ry,q⟩=>thn (ha pins s1 σ H1 _ I1 q) fun ov s2 ⟨x,H2,I2,rx,a,C,dx,fs,ex,ea,c,n,l,q2⟩=>?_) hs
 subst ex
 obtain rfl:ov=Value.ref a:=rx
 exact setattr_ok I2 ea c n l ry fun s3 I3=>⟨σ,_,I3,q2⟩
end
section
variable {X:Cx} {pins:List (Addr×Obj)} {σ:St} {H:Hp} {s:Shared} {A:Around} {E:Value→Shared→Prop} {Q:Value→Shared→Prop} {c:Value} {b:Bool}
end
end L2
namespace L2
open PySem PySem.Spec PyProof.Rows
structure Room (k:Nat) (A:Around):Prop where
 hd:A.handled=none
 dp:A.depth+3 * k+5 < recursionLimit
 un:A.units+16 * k+200 < cLine
theorem Room.mono {j k:Nat} {A:Around} (r:Room k A) (h:j≤k):Room j A:=⟨r.hd,by have:=r.dp; omega,by have:=r.un; omega⟩
theorem Room.deeper {k:Nat} {A:Around} (r:Room (k+1) A) (env:Env):Room k (A.deeper env) :=
 ⟨r.hd,by have:=r.dp; show A.depth+1+3 * k+5 < _; omega,by have:=r.un; show A.units+3+16 * k+200 < _; omega⟩
theorem make_depth {A:Around} {C:Addr} {us:List Value} {kw:List (Str×Value)}:(A.under (.builtin "type.__call__" ⟨.ref C :: us,kw⟩)).depth=A.depth+1:=by
 first | rfl | simp [Around.under,Code.weight,Code.isCreation,Code.isGuard,Code.isCaller,Code.frames,Code.isFrame,guardIds]
theorem make_units {A:Around} {C:Addr} {us:List Value} {kw:List (Str×Value)}:(A.under (.builtin "type.__call__" ⟨.ref C :: us,kw⟩)).units=A.units+1:=by
 first | rfl | simp [Around.under,Code.cUnits,Code.frames,Code.isFrame]
theorem Room.make {k:Nat} {A:Around} (r:Room (k+1) A) (C:Addr) (us:List Value) (kw:List (Str×Value)):Room k (A.under (.builtin "type.__call__" ⟨.ref C :: us,kw⟩)) :=
 ⟨r.hd,by have:=r.dp; rw [make_depth]; omega,by have:=r.un; rw [make_units]; omega⟩
theorem Room.depth {k:Nat} {A:Around} (r:Room k A):A.depth < recursionLimit:=by have:=r.dp; omega
noncomputable def tNil:TA:=fun _ H Q=>Q [] H
noncomputable def tCons (ta:TE) (tr:TA):TA:=fun σ H Q=>ta σ H fun x H1=>tr σ H1 fun xs H2=>Q (x :: xs) H2
section
variable {X:Cx} {e:Expr} {es:List Expr} {te:TE} {t:TA} {pos:Pos}
theorem pa_nil:PA X [] tNil:=fun _ _ _ _ H Q I h=>Calls.spliced_nil ⟨[],H,I,.nil,h⟩
theorem pa_cons (ha:PE X e te) (hr:PA X es t) (hs:starEach (e :: es) X.env=(false,eval e X.env) :: starEach es X.env:=by rfl):PA X (e :: es) (tCons te t):=by
 intro pos pins s σ H Q I h
 rw [hs]
 show wpAny _ _ (spliced ((false,eval e X.env) :: backTo pos (starEach es X.env))) _ _ s
 refine Calls.spliced_cons (thn (ha pins s σ H _ I h) fun u s1 ⟨x,H1,I1,r1,q1⟩=>?_)
 exact thn (hr pos pins s1 σ H1 _ I1 q1) fun us s2 ⟨xs,H2,I2,r2,q2⟩=>⟨x :: xs,H2,I2,.cons r1 r2,q2⟩
noncomputable def tTup (t:TA):TE:=fun σ H Q=>t σ H fun xs H1=>xs.length≤sizeLine∧∀ p,H1 p=none→Q (.ref p) (upd H1 p (.tup xs))
noncomputable def tLst (t:TA):TE:=fun σ H Q=>t σ H fun xs H1=>xs.length≤sizeLine∧∀ p,H1 p=none→Q (.ref p) (upd H1 p (.lst xs))
theorem pe_tup {x1} (h:PA X es t):PE X (.Tuple es x1 pos) (tTup t):=by
 intro pins s σ H Q I hq
 refine wpAny_Tuple_spliced (thn (h pos pins s σ H _ I hq) fun us s1 ⟨xs,H1,I1,r,z,q⟩=>⟨by rw [← r.length]; exact z,?_⟩)
 have hf:H1 s1.heap.objs.size=none:=I1.hok.fresh (Nat.le_refl _)
 refine ⟨.ref s1.heap.objs.size,upd H1 s1.heap.objs.size (.tup xs),I1.laid (t':=s1.toks) (fun b u e=>Heap.get?_push_of_some _ e) (Nat.le_refl _) ?_,rfl,q _ hf⟩
 exact ⟨z,us,r,⟨_,Heap.get?_push_size _ rfl,rfl,_,rfl⟩⟩
theorem pe_lst (h:PA X es t):PE X (.List es pos) (tLst t):=by
 intro pins s σ H Q I hq
 refine wpAny_List_spliced (thn (h pos pins s σ H _ I hq) fun us s1 ⟨xs,H1,I1,r,z,q⟩=>⟨by rw [← r.length]; exact z,?_⟩)
 have hf:H1 s1.heap.objs.size=none:=I1.hok.fresh (Nat.le_refl _)
 refine ⟨.ref s1.heap.objs.size,upd H1 s1.heap.objs.size (.lst xs),I1.laid (t':=s1.toks) (fun b u e=>Heap.get?_push_of_some _ e) (Nat.le_refl _) ?_,rfl,q _ hf⟩
 exact ⟨z,us,0,r,Heap.get?_push_size _ rfl⟩
end
noncomputable abbrev Sp:=List V→Hp→VK→XK→Prop
noncomputable abbrev CXT:=List Env→Hp→Shared→XK→Value→Shared→Prop
structure Env0 (P:Program) (w:World) (K:PySem.W.Frag) (mg:Str→Option Value) (base:Heap) (A:Around) (outer:List Env) (s:Shared) (H:Hp):Prop where
 frames:A.frames=some outer
 mod:Mod K mg base
 bs:∀ b o,base.get? b=some o→s.heap.get? b=some o∧H b=none
 bsz:base.objs.size≤s.heap.objs.size
 funs:s.heap.FunFrames base outer
 frf:∀ b∈frs outer,H b=none
 hok:HOk P w H s.heap
 bare:AllBare s.gens
noncomputable def CE (outer:List Env) (P:Program) (w:World) (H:Hp) (s:Shared) (Q:VK) (u:Value) (s':Shared):Prop :=
 ∃ v H',s'.os=s.os∧AllBare s'.gens∧Un (frs outer) [] H H' s.heap s'.heap∧HOk P w H' s'.heap∧RelV v u∧Q v H'
noncomputable def CR (CX:CXT) (outer:List Env) (P:Program) (w:World) (H:Hp) (s:Shared) (Q:VK) (E:XK) (r:Result) (s':Shared):Prop :=
 match r with
 | .ok (.ret u)=>CE outer P w H s Q u s'
 | .ok _=>False
 | .error e=>CX outer H s E e s'
structure FnOk (P:Program) (w:World) (K:PySem.W.Frag) (mg:Str→Option Value) (base:Heap) (CX:CXT) (k:Nat) (f:Addr) (fd:FuncData) (ps:List Str) (sp:Sp):Prop where
 len:∀ vs H Q E,sp vs H Q E→vs.length=ps.length
 run:∀ (A:Around) (outer:List Env) (s:Shared) (H:Hp) (args:Args) (us:List Value) (vs:List V) (Q:VK) (E:XK),Room k A→Env0 P w K mg base A outer s H→BindsTo s fd args (ps.zip us)→Vals vs us→sp vs H Q E →
  codeAny (model P w) A (.call (.ref f) args) (CR CX outer P w H s Q E) s
theorem Env0.make {P:Program} {w:World} {K:PySem.W.Frag} {mg:Str→Option Value} {base:Heap} {A:Around} {outer:List Env} {s:Shared} {H:Hp} (e:Env0 P w K mg base A outer s H) (C:Addr) (us:List Value) (kw:List (Str×Value)) :
 Env0 P w K mg base (A.under (.builtin "type.__call__" ⟨.ref C :: us,kw⟩)) outer s H:=⟨by first | exact e.frames | (simpa [Around.under,Code.envs,Code.isFrame,pushEnvs] using e.frames),e.mod,e.bs,e.bsz,e.funs,e.frf,e.hok,e.bare⟩
section
variable {X:Cx} {pins:List (Addr×Obj)} {σ:St} {H:Hp} {s s':Shared}
theorem Inv.env0 (I:Inv X pins σ H s):Env0 X.prog X.w X.K X.mg X.base X.A X.stack s H :=
 ⟨I.ok.frames,I.ok.mod,I.bs,Nat.le_trans I.ok.bsz I.sz,I.stack,I.stkFree,I.hok,I.bare⟩
theorem Inv.after {Q:VK} {u:Value} (I:Inv X pins σ H s) (h:CE X.stack X.prog X.w H s Q u s'):EP X pins σ Q u s':=by
 obtain ⟨v,H',os,bare,un,hok,r,q⟩:=h
 obtain ⟨hh,g,d,t,os'⟩:=s'
 obtain rfl:os'=s.os:=os
 exact ⟨v,H',I.call (h':=hh) (g':=g) (d':=d) (t':=t) (ch:=[]) un hok bare (fun b z=>absurd z (by simp)),r,q⟩
end
noncomputable def tCall (sp:Sp) (dvs:List V) (E:XK) (t:TA):TE:=fun σ H Q=>t σ H fun vs H1=>sp (vs ++ dvs) H1 Q E
noncomputable def tMake (C:Addr) (sp:Sp) (dvs:List V) (E:XK) (t:TA):TE:=fun σ H Q=>t σ H fun vs H1=>∀ x dx,H1 x=none→H1 dx=none→dx≠x →
 sp (.ref x :: (vs ++ dvs)) (upd (upd H1 dx (.own x)) x (.ins C dx [])) (fun v H2=>v = .non∧Q (.ref x) H2) E
noncomputable def Binds (K:PySem.W.Frag) (fd:FuncData) (ps:List Str) (ds:List Value):Prop :=
 ∀ (s:Shared) (us:List Value),K.In s.heap→(us ++ ds).length=ps.length→BindsTo s fd ⟨us,[]⟩ (ps.zip (us ++ ds))
theorem Binds.all {K:PySem.W.Frag} {fd:FuncData} {ps:List Str} (h:∀ us:List Value,us.length=ps.length→bindArgs fd ⟨us,[]⟩=pure (ps.zip us)):Binds K fd ps []:=fun s us _ hl=>by
 rw [List.append_nil] at hl ⊢
 exact .of_eq (h us hl)
noncomputable def Passes (CX:CXT) (X:Cx) (E:XK):Prop:=∀ (pins:List (Addr×Obj)) (σ:St) (H:Hp) (s:Shared) (e:Value) (s':Shared),Inv X pins σ H s→CX X.stack H s E e s'→X.xe e s'
section
variable {X:Cx} {CX:CXT} {k:Nat} {f C:Addr} {fd:FuncData} {ps:List Str} {sp:Sp} {dvs:List V} {ds:List Value} {E:XK} {x m:Str} {p pos apos:Pos} {e o:Expr} {es:List Expr} {ta:TE} {t:TA}
theorem run_fn {pins:List (Addr×Obj)} {σ:St} {H:Hp} {s:Shared} {Q:VK} {us:List Value} {vs:List V} (F:FnOk X.prog X.w X.K X.mg X.base CX k f fd ps sp) (hr:Room k X.A) (hb:Binds X.K fd ps ds) (hd:Vals dvs ds) (hx:Passes CX X E)
  (I:Inv X pins σ H s) (r:Vals vs us) (h:sp (vs ++ dvs) H Q E):wpAny (model X.prog X.w) X.A (call (.ref f) us) (EP X pins σ Q) X.xe s:=by
 have r2:Vals (vs ++ dvs) (us ++ ds):=r.append hd
 have hl:(us ++ ds).length=ps.length:=by rw [← r2.length]; exact F.len _ _ _ _ h
 refine wpAny_call (codeAny_mono (F.run X.A X.stack s H ⟨us,[]⟩ (us ++ ds) (vs ++ dvs) Q E hr I.env0 (hb s us I.kIn hl) r2 h) fun r s' hq=>?_)
 cases r with
 | error e=>exact hx pins σ H s e s' I hq
 | ok fl =>
   cases fl with
   | ret u=>exact I.after hq
   | next=>exact False.elim hq
   | brk=>exact False.elim hq
   | cont=>exact False.elim hq
theorem pe_call (F:FnOk X.prog X.w X.K X.mg X.base CX k f fd ps sp) (hr:Room k X.A) (hg:Gl X x) (hm:X.mg x=some (.ref f)) (hk:PySem.W.keepIn X.K (.ref f)=true) (hb:Binds X.K fd ps ds) (hd:Vals dvs ds) (hx:Passes CX X E)
  (ha:PA X (e :: es) t) (hdb:(x == ("__debug__" : Str))=false:=by decide) (he:starEach (e :: es) X.env=(false,eval e X.env) :: starEach es X.env:=by rfl) (hpl:(backTo pos (starEach es X.env)).any (·.1)=false:=by rfl) :
  PE X (.Call (.Name x p) (e :: es) [] pos) (tCall sp dvs E t):=by
 intro pins s σ H Q I h
 refine wpAny_Call_Name_kw (ld_glob I hg hm ?_ hdb)
 refine PySem.W.callWith_K (h₀:=X.base) I.ok.mod.kin hk (thn (ha pos pins s σ H _ I h) fun us s1 ⟨vs,H1,I1,r,q⟩=>⟨I1.kIn,?_⟩) he hpl
 exact run_fn F hr hb hd hx I1 r q
structure Mk (K:PySem.W.Frag) (C f:Addr):Prop where
 makes:PySem.W.makesIn K C=true
 init:PySem.W.findIn K (.ref C) "__init__" = some (some (.ref f))
 fn:PySem.W.isFn K (.ref f)=true
 kp:PySem.W.keepIn K (.ref C)=true
theorem run_make {pins:List (Addr×Obj)} {σ:St} {H:Hp} {s:Shared} {Q:VK} {us:List Value} {vs:List V} (M:Mk X.K C f) (F:FnOk X.prog X.w X.K X.mg X.base CX k f fd ps sp) (hr:Room (k+1) X.A) (hb:Binds X.K fd ps ds) (hd:Vals dvs ds)
  (hx:Passes CX X E) (I:Inv X pins σ H s) (r:Vals vs us)
  (h:∀ x dx,H x=none→H dx=none→dx≠x→sp (.ref x :: (vs ++ dvs)) (upd (upd H dx (.own x)) x (.ins C dx [])) (fun v H2=>v = .non∧Q (.ref x) H2) E) :
  wpAny (model X.prog X.w) X.A (call (.ref C) us) (EP X pins σ Q) X.xe s:=by
 have hq:=h (s.heap.objs.size+1) s.heap.objs.size (I.hok.fresh (Nat.le_succ _)) (I.hok.fresh (Nat.le_refl _)) (Nat.ne_of_lt (Nat.lt_succ_self _))
 have I2:=Inv.made (C:=C) I
 have r2:Vals (V.ref (s.heap.objs.size+1) :: (vs ++ dvs)) (Value.ref (s.heap.objs.size+1) :: (us ++ ds)):=.cons rfl (r.append hd)
 have hl:(Value.ref (s.heap.objs.size+1) :: us ++ ds).length=ps.length:=by
  have e:=r2.length
  rw [F.len _ _ _ _ hq] at e
  exact e.symm
 refine wpAny_call (make_map (f:=f) I.kIn M.makes M.init (beq_iff_eq.mp M.fn) (codeAny_mono (F.run _ X.stack _ _ ⟨Value.ref (s.heap.objs.size+1) :: us,[]⟩ (Value.ref (s.heap.objs.size+1) :: (us ++ ds)) _ _ E (hr.make C us [])
  (I2.env0.make C us []) (hb _ (Value.ref (s.heap.objs.size+1) :: us) I2.kIn hl) r2 hq) fun r s' hq'=>?_))
 cases r with
 | error e=>exact hx pins σ _ _ e s' I2 hq'
 | ok fl =>
   cases fl with
   | ret u =>
     obtain ⟨v,H',I3,rv,ev,q3⟩:=I2.after hq'
     subst ev
     exact ⟨rv,⟨V.ref (s.heap.objs.size+1),H',I3,rfl,q3⟩⟩
   | next=>exact False.elim hq'
   | brk=>exact False.elim hq'
   | cont=>exact False.elim hq'
theorem pe_make (M:Mk X.K C f) (F:FnOk X.prog X.w X.K X.mg X.base CX k f fd ps sp) (hr:Room (k+1) X.A) (hg:Gl X x) (hm:X.mg x=some (.ref C)) (hb:Binds X.K fd ps ds) (hd:Vals dvs ds) (hx:Passes CX X E)
  (ha:PA X (e :: es) t) (hdb:(x == ("__debug__" : Str))=false:=by decide) (he:starEach (e :: es) X.env=(false,eval e X.env) :: starEach es X.env:=by rfl) (hpl:(backTo pos (starEach es X.env)).any (·.1)=false:=by rfl) :
  PE X (.Call (.Name x p) (e :: es) [] pos) (tMake C sp dvs E t):=by
 intro pins s σ H Q I h
 refine wpAny_Call_Name_kw (ld_glob I hg hm ?_ hdb)
 refine PySem.W.callWith_K (h₀:=X.base) I.ok.mod.kin M.kp (thn (ha pos pins s σ H _ I h) fun us s1 ⟨vs,H1,I1,r,q⟩=>⟨I1.kIn,?_⟩) he hpl
 exact run_make M F hr hb hd hx I1 r q
end
section
variable {X:Cx} {CX:CXT} {k:Nat} {f C:Addr} {fd:FuncData} {ps ks:List Str} {sp:Sp} {E:XK} {x m:Str} {p pos apos kpos:Pos} {e o:Expr} {es:List Expr} {kws:List Keyword} {te ta:TE} {t tk:TA} {nm:Option Str}
variable {g:List Value→List Value→List Value} {gV:List V→List V→List V}
end
structure FnScope (N P:List Str) (sc:Scope):Prop where
 kind:sc.kind = .function
 co:sc.isCoroutine=false
 gen:sc.isGenerator=false
 nd:N.Nodup
 pre:N.take P.length=P
 par:∀ x∈P,sc.names.lookup x=some .local∨sc.names.lookup x=some .cell
 nofree:∀ y∈sc.names,y.2≠.free
theorem bindL_out {kindOf:Str→Option NameKind} {x:Str}:∀ {binds:List (Str×Value)} {m:Str→Option Value},(∀ v,(x,v)∉binds)→bindL kindOf binds m x=m x
 | [],_,_=>rfl
 | (n,v) :: r,m,h=>by
   unfold bindL
   rw [bindL_out fun w hw=>h w (List.mem_cons_of_mem _ hw)]
   split
   · have:x≠n:=by rintro rfl; exact h v List.mem_cons_self
     simp [this]
   · rfl
theorem bindC_out {kindOf:Str→Option NameKind} {x:Str}:∀ {binds:List (Str×Value)} {m:Str→Option Value},(∀ v,(x,v)∉binds)→bindC kindOf binds m x=m x
 | [],_,_=>rfl
 | (n,v) :: r,m,h=>by
   unfold bindC
   rw [bindC_out fun w hw=>h w (List.mem_cons_of_mem _ hw)]
   split
   · rfl
   · have:x≠n:=by rintro rfl; exact h v List.mem_cons_self
     simp [this]
theorem bindL_get {kindOf:Str→Option NameKind} {x:Str} {v:Value}:∀ {P:List Str} {vs:List Value} {i:Nat} {m:Str→Option Value},P.Nodup→P[i]?=some x→vs[i]?=some v→kindOf x=some .local →
  bindL kindOf (P.zip vs) m x=some v
 | [],_,_,_,_,h,_,_=>by simp at h
 | _ :: _,[],_,_,_,_,h,_=>by simp at h
 | p :: P,w :: vs,0,m,nd,h1,h2,hk=>by
   simp at h1 h2; subst h1; subst h2
   show bindL kindOf ((p,w) :: P.zip vs) m p=_
   unfold bindL
   rw [bindL_out fun v hv=>(List.nodup_cons.mp nd).1 (List.of_mem_zip hv).1,if_pos hk]
   simp
 | p :: P,w :: vs,i+1,m,nd,h1,h2,hk=>by
   show bindL kindOf ((p,w) :: P.zip vs) m x=_
   unfold bindL
   exact bindL_get (i:=i) (List.nodup_cons.mp nd).2 (by simpa using h1) (by simpa using h2) hk
theorem bindC_get {kindOf:Str→Option NameKind} {x:Str} {v:Value}:∀ {P:List Str} {vs:List Value} {i:Nat} {m:Str→Option Value},P.Nodup→P[i]?=some x→vs[i]?=some v→kindOf x≠some .local →
  bindC kindOf (P.zip vs) m x=some v
 | [],_,_,_,_,h,_,_=>by simp at h
 | _ :: _,[],_,_,_,_,h,_=>by simp at h
 | p :: P,w :: vs,0,m,nd,h1,h2,hk=>by
   simp at h1 h2; subst h1; subst h2
   show bindC kindOf ((p,w) :: P.zip vs) m p=_
   unfold bindC
   rw [bindC_out fun v hv=>(List.nodup_cons.mp nd).1 (List.of_mem_zip hv).1,if_neg hk]
   simp
 | p :: P,w :: vs,i+1,m,nd,h1,h2,hk=>by
   show bindC kindOf ((p,w) :: P.zip vs) m x=_
   unfold bindC
   exact bindC_get (i:=i) (List.nodup_cons.mp nd).2 (by simpa using h1) (by simpa using h2) hk
noncomputable def start (N:List Str) (vs:List V):St:=vs.map some ++ List.replicate (N.length - vs.length) none
noncomputable def cxOf (CX:CXT) (P:Program) (w:World) (K:PySem.W.Frag) (mg:Str→Option Value) (base:Heap) (N:List Str) (qual:Str) (scope:Scope) (f:Addr) (cd:Value) (A:Around) (outer:List Env) (s:Shared) (H:Hp) (E:XK):Cx where
 prog:=P
 w:=w
 K:=K
 mg:=mg
 base:=base
 A:=A.deeper (envOfC qual scope s.heap.objs.size f cd)
 N:=N
 s₀:=s
 H₀:=H
 env:=envOfC qual scope s.heap.objs.size f cd
 outer:=outer
 stack:=envOfC qual scope s.heap.objs.size f cd :: outer
 ex:=[]
 calm:=true
 fn:=fun _=>true
 pn:=[]
 xe:=fun e s'=>wpAny (model P w) (A.deeper (envOfC qual scope s.heap.objs.size f cd)) (leaving (envOfC qual scope s.heap.objs.size f cd) e) (fun _ s''=>CX outer H s E e s'') (fun e' s''=>CX outer H s E e' s'') s'
theorem cell_has {sc:Scope} {n:Nat} {x:Str} (h:sc.names.lookup x=some .cell):∃ c,(cellsFrom n sc.names []).lookup x=some c:=by
 have q:=PySem.W.cellsFrom_some sc.names n [] (.inl h)
 exact Option.isSome_iff_exists.mp q
theorem inv_start {CX:CXT} {P:Program} {w:World} {K:PySem.W.Frag} {mg:Str→Option Value} {base:Heap} {N ps:List Str} {qual:Str} {scope:Scope} {f:Addr} {cd:Value} {A:Around} {outer:List Env} {s s1:Shared} {H:Hp} {E:XK} {us:List Value} {vs:List V}
  (S:FnScope N ps scope) (hd:A.handled=none) (e0:Env0 P w K mg base A outer s H) (hl:vs.length=ps.length) (r:Vals vs us)
  (x:InCallC s s.heap.objs.size (bindL (envOfC qual scope s.heap.objs.size f cd).kindOf (ps.zip us) fun _=>none) (cellsFrom (s.heap.objs.size+1) scope.names []) (bindC (envOfC qual scope s.heap.objs.size f cd).kindOf (ps.zip us) fun _=>none) s1) :
  Inv (cxOf CX P w K mg base N qual scope f cd A outer s H E) [] (start N vs) H s1:=by
 have hpl:ps.length≤N.length:=by have:=congrArg List.length S.pre; rw [List.length_take] at this; omega
 obtain ⟨h1,tk,rfl,hk⟩:=x.done
 have noA:∀ b:Addr,b∉(cxOf CX P w K mg base N qual scope f cd A outer s H E).ex:=fun b z=>absurd (show b∈([]:List Addr) from z) (by simp)
 refine ⟨⟨e0.mod,S.kind,rfl,rfl,Nat.le_refl _,fun y z c h1 h2=>?_,fun y hy=>?_,fun y c _ h=>?_,fun _=>hd,Around.frames_deeper e0.frames,.inr ⟨rfl,rfl⟩,fun b z=>absurd z (noA b),e0.bs,e0.bsz,fun b _ _=>noA b,fun b z=>absurd z (noA b),e0.funs,e0.frf⟩,
  rfl,e0.bare,Un.kept hk,⟨_,x.toInCall.ns,fun i y v h1 h2 h3=>?_⟩,fun y c h=>⟨_,x.cell y c h⟩,e0.hok.fresh (Nat.le_refl _),fun y c h=>?_,fun p hp=>absurd (show p∈([]:List (Addr×Obj)) from hp) (by simp),e0.hok.kept hk,?_⟩
 · exact name_of_addr x.apart (PySem.mem_of_lookup h1) (PySem.mem_of_lookup h2)
 · have hy:scope.names.lookup y=some .cell∨scope.names.lookup y=some .free:=hy
   rcases hy with hy | hy
   · exact cell_has hy
   · exact absurd rfl (S.nofree _ (PySem.mem_of_lookup hy))
 · exact Nat.le_of_lt (x.above y c (PySem.mem_of_lookup h))
 · have hi:i < vs.length:=by
    unfold start at h2
    by_cases hi:i < vs.length
    · exact hi
    · rw [List.getElem?_append_right (by simpa using hi)] at h2
      rw [List.getElem?_replicate] at h2
      split at h2 <;> cases h2
   have ha:vs[i]?=some v:=by
    unfold start at h2
    rw [List.getElem?_append_left (by simpa using hi),List.getElem?_map] at h2
    cases e:vs[i]? with
    | none=>rw [e] at h2; cases h2
    | some a=>rw [e] at h2; cases h2; rfl
   obtain ⟨u,hu,rv⟩:=r.get ha
   have hp:ps[i]?=some y:=by
    rw [← S.pre,List.getElem?_take_of_lt (by omega)]; exact h1
   have ndP:ps.Nodup:=by rw [← S.pre]; exact S.nd.sublist (List.take_sublist _ _)
   refine ⟨u,rv,?_⟩
   rcases S.par y (List.mem_of_getElem? hp) with k | k
   · exact .inl ⟨k,bindL_get ndP hp hu k⟩
   · obtain ⟨c,e⟩:=cell_has (n:=s.heap.objs.size+1) k
     refine .inr ⟨.inl k,c,e,?_⟩
     have q:=x.cell y c e
     rw [bindC_get ndP hp hu (by show scope.names.lookup y≠_; rw [k]; decide)] at q
     exact q
 · exact e0.hok.fresh (Nat.le_of_lt (x.above y c (PySem.mem_of_lookup h)))
 · unfold start
   show _=N.length
   rw [List.length_append,List.length_map,List.length_replicate]
   omega
theorem fn_of {CX:CXT} {P:Program} {w:World} {K:PySem.W.Frag} {mg:Str→Option Value} {base:Heap} {k:Nat} {f:Addr} {name qual:Str} {params:Arguments} {body:List Stmt} {scope:Scope} {dV kV doc pm cdv ct oc:Value} {an od:Option Addr}
  {osl:Array (Option Value)} {N ps:List Str} {sp:Sp} (lk:K.lookup f=some ⟨oc,od,.func (PySem.W.fnOf name qual params body scope dV kV doc pm an cdv ct),osl⟩) (hcd:PySem.W.codeIn K cdv qual=true) (S:FnScope N ps scope)
  (len:∀ vs H Q E,sp vs H Q E→vs.length=ps.length)
  (hbody:∀ (A:Around) (outer:List Env) (s:Shared) (H:Hp) (vs:List V) (Q:VK) (E:XK),Room k (A.deeper (envOfC qual scope s.heap.objs.size f cdv))→sp vs H Q E →
    ∃ t,PSs (cxOf CX P w K mg base N qual scope f cdv A outer s H E) body t∧t { nx:=fun _ H'=>Q .non H',rt:=Q } (start N vs) H) :
  FnOk P w K mg base CX (k+1) f (PySem.W.fnOf name qual params body scope dV kV doc pm an cdv ct) ps sp:=by
 refine ⟨len,fun A outer s H args us vs Q E hr e0 hb r hsp=>?_⟩
 have hl:=len _ _ _ _ hsp
 have KX:K.In s.heap:=e0.mod.kin.keeps fun b o e=>(e0.bs b o e).1
 have lim:s.heap.NoLimit:=e0.mod.nolimit.keeps fun b o e=>(e0.bs b o e).1
 have hkind:∀ y∈ps.zip us,scope.names.lookup y.1=some .local∨(scope.names.lookup y.1=some .cell∧((cellsFrom (s.heap.objs.size+1) scope.names []).lookup y.1).isSome=true):=fun ⟨n,v⟩ hy=>by
  rcases S.par n (List.of_mem_zip hy).1 with q | q
  · exact .inl q
  · exact .inr ⟨q,PySem.W.cellsFrom_some _ _ _ (.inl q)⟩
 refine codeAny_call_function hr.depth (KX _ _ lk) rfl S.co S.gen rfl (PySem.W.codeRec_of KX hcd) (hb _ _ _ _ ?_)
 refine wpAny_newFunctionEnv_cells S.kind hkind fun env he s1 x=>?_
 subst he
 refine ⟨lim.keeps x.toInCall.keep,codeAny_func ?_⟩
 obtain ⟨t,ht,hq⟩:=hbody A outer s H vs Q E (hr.deeper _) hsp
 have I:Inv (cxOf CX P w K mg base N qual scope f cdv A outer s H E) [] (start N vs) H s1:=inv_start S hr.hd e0 hl r x
 refine wpAny_mono (ht [] s1 (start N vs) H _ I hq) (fun fl s' hs=>?_) fun e s' hs=>hs
 have fin:∀ {σ':St} {H':Hp} {v:V} {u:Value},Inv (cxOf CX P w K mg base N qual scope f cdv A outer s H E) [] σ' H' s'→RelV v u→Q v H'→CE outer P w H s Q u s' :=
  fun {σ' H' v u} J rv q=>⟨v,H',J.os,J.bare,J.base,J.hok,rv,q⟩
 cases fl with
 | ret u =>
   obtain ⟨v,σ',H',J,rv,q⟩:=hs
   exact fin J rv q
 | next =>
   obtain ⟨σ',H',J,q⟩:=hs
   exact fin (v:=V.non) (u:=Value.none) J rfl q
 | brk =>
   obtain ⟨_,_,_,q⟩:=hs
   exact False.elim q
 | cont =>
   obtain ⟨_,_,_,q⟩:=hs
   exact False.elim q
end L2
namespace L2
open PySem PySem.Spec PyProof.Rows
section
variable {X:Cx} {x:Str} {p pos:Pos} {e:Expr} {es:List Expr} {t:TA} {id T:String} {r:List V→Hp→VK→Prop}
noncomputable def tCB (r:List V→Hp→VK→Prop) (t:TA):TE:=fun σ H Q=>t σ H fun vs H1=>r vs H1 Q
theorem pe_callB (hc:CallR X (.builtin id) r) (hg:Gl X x) (hm:X.mg x=none) (hv:bootBuiltins x=some (.builtin id)) (ha:PA X (e :: es) t) (hn:x≠"__name__":=by decide) (hdb:(x == ("__debug__" : Str))=false:=by decide)
  (he:starEach (e :: es) X.env=(false,eval e X.env) :: starEach es X.env:=by rfl) (hpl:(backTo pos (starEach es X.env)).any (·.1)=false:=by rfl):PE X (.Call (.Name x p) (e :: es) [] pos) (tCB r t):=by
 intro pins s σ H Q I h
 refine wpAny_Call_Name_kw (ld_blt I hg hm hv ?_ hn hdb)
 exact PyProof.Rows.callWith_builtin1 (thn (ha pos pins s σ H _ I h) fun us s1 ⟨vs,H1,I1,r1,q1⟩=>hc pins s1 σ H1 vs us Q I1 r1 q1) he hpl
theorem pe_callTy (hc:CallR X (.type T) r) (hg:Gl X x) (hm:X.mg x=none) (hv:bootBuiltins x=some (.type T)) (ha:PA X (e :: es) t) (hn:x≠"__name__":=by decide) (hdb:(x == ("__debug__" : Str))=false:=by decide)
  (he:starEach (e :: es) X.env=(false,eval e X.env) :: starEach es X.env:=by rfl) (hpl:(backTo pos (starEach es X.env)).any (·.1)=false:=by rfl):PE X (.Call (.Name x p) (e :: es) [] pos) (tCB r t):=by
 intro pins s σ H Q I h
 refine wpAny_Call_Name_kw (ld_blt I hg hm hv ?_ hn hdb)
 exact PyProof.Rows.callWith_type1 (thn (ha pos pins s σ H _ I h) fun us s1 ⟨vs,H1,I1,r1,q1⟩=>hc pins s1 σ H1 vs us Q I1 r1 q1) he hpl
end
end L2
namespace HT
open PySem PyProof.Rows
section
open PySem.SeqAt
open PySem.AutoSeq1 (wpAny_loadPart')
open PySem.MeetsSeq PySem.MeetsSeq2 PySem.MeetsSeq3
end
section
variable {prog:Program} {w:World} {A:Around} {E:Value→Shared→Prop} {s:Shared}
theorem cat_tup {t b:Addr} {vs ws:List Value} {Q:Value→Shared→Prop} (ht:IsTup s.heap t vs.toArray) (hb:IsTup s.heap b ws.toArray) (hv:vs≠[])
  (h1:ws=[]→Q (.ref t) s) (h2:ws≠[]→Q (.ref s.heap.objs.size) { s with heap:=s.heap.push { cls:=.type "tuple",data:=.seq (vs ++ ws).toArray } })
  (hsz:vs.length+ws.length≤sizeLine):wpAny (model prog w) A (binaryOp .Add (.ref t) (.ref b)) Q E s:=by
 obtain ⟨⟨cls,dd,data,sl⟩,ho,hc,n,hd⟩:=id ht
 obtain ⟨⟨cls2,dd2,data2,sl2⟩,ho2,hc2,n2,hd2⟩:=id hb
 simp only at hc hd hc2 hd2
 subst hc hd hc2 hd2
 have e:vs.toArray ++ ws.toArray=(vs ++ ws).toArray:=by simp
 by_cases hw:ws=[]
 · exact concat_meets ⟨_,ho,rfl⟩ ⟨_,ho2,rfl⟩ noFill_tuple_add seq_tuple_add PySem.F.slot_tuple_add PySem.F.entry_tuple_add (PySem.F.args_tuple_add_2 _ _)
    (tuple_addW1 t b vs.toArray ws.toArray n n2 dd dd2 sl sl2 (by simpa using hv) (by simp [hw])) ⟨ho,ho2,h1 hw⟩
 · refine concat_meets ⟨_,ho,rfl⟩ ⟨_,ho2,rfl⟩ noFill_tuple_add seq_tuple_add PySem.F.slot_tuple_add PySem.F.entry_tuple_add (PySem.F.args_tuple_add_2 _ _)
    (tuple_addW2 t b vs.toArray ws.toArray n n2 dd dd2 sl sl2 (by simpa using hv) (by simpa using hw) (by rw [List.size_toArray,List.size_toArray]; exact hsz)) ⟨ho,ho2,?_⟩
   rw [e]
   exact h2 hw
noncomputable def sIx (n d:Nat):Option Int→Nat
 | none=>d
 | some v=>if v < 0 then (v+(n:Int)).toNat else min v.toNat n
theorem sIx_le (n d:Nat) (hd:d≤n) (o:Option Int):sIx n d o≤n:=by
 cases o with
 | none=>exact hd
 | some v =>
   show (if v < 0 then (v+(n:Int)).toNat else min v.toNat n)≤n
   by_cases hv:v < 0
   · rw [if_pos hv]; omega
   · rw [if_neg hv]; exact Nat.min_le_right _ _
theorem clip_eq (v:Int) (n d:Nat):(if v < 0 then max (v+(n:Int)) 0 else min v (n:Int))=((sIx n d (some v):Nat):Int):=by
 show (if v < 0 then max (v+(n:Int)) 0 else min v (n:Int))=(((if v < 0 then (v+(n:Int)).toNat else min v.toNat n):Nat):Int)
 by_cases hv:v < 0
 · simp only [if_pos hv]; omega
 · simp only [if_neg hv]; omega
theorem adjust_gen (lo hi:Option Int) (n:Nat):Builtin.Slice.sliceAdjust lo hi 1 (n:Int)=(((sIx n 0 lo:Nat):Int),((sIx n n hi:Nat):Int)):=by
 have h1:¬ ((1:Int) < 0):=by omega
 unfold Builtin.Slice.sliceAdjust
 simp only [h1,if_false]
 refine Prod.ext ?_ ?_
 · cases lo with
   | none=>rfl
   | some v=>exact clip_eq v n 0
 · cases hi with
   | none=>rfl
   | some v=>exact clip_eq v n n
theorem places_gen (i j:Nat):Builtin.Slice.slicePlaces (i:Int) (j:Int) 1=j - i:=by
 unfold Builtin.Slice.slicePlaces
 have h1:(1:Int) > 0:=by omega
 simp only [h1,if_true,Int.ediv_one]
 split <;> omega
theorem slicePart_ {v:Value} {o:Option Int} {Q:Option Int→Shared→Prop} (p:IsPart v o) (h:Q o s):wpAny (model prog w) A (Builtin.Slice.slicePartIndex v) Q E s:=by
 cases p with
 | none=>exact slicePart_none h
 | int i t=>exact slicePart_int h
theorem sliceApplied_gen {sl:Addr} {vl vu:Value} {lo hi:Option Int} {n:Nat} {Q:Int×Int×Nat→Shared→Prop} (hs:s.heap.IsSliceOf sl vl vu .none) (pl:IsPart vl lo) (pu:IsPart vu hi)
  (h:Q (((sIx n 0 lo:Nat):Int),1,sIx n n hi - sIx n 0 lo) s):wpAny (model prog w) A (Builtin.Slice.sliceApplied (.ref sl) (pure (n:Int))) Q E s:=by
 obtain ⟨os,hos,hcs,hds⟩:=id hs
 unfold Builtin.Slice.sliceApplied Builtin.Slice.sliceFields
 refine wpAny_bind (wpAny_bind (wpAny_field hos hds (x:=vl) rfl (wpAny_bind (wpAny_field hos hds (x:=vu) rfl (wpAny_bind (wpAny_field hos hds (x:=.none) rfl (wpAny_pure ?_)))))))
 refine wpAny_bind (slicePart_none ?_)
 show wpAny _ _ (if ((1:Int) == 0)=true then _ else _) _ _ s
 rw [if_neg (by decide)]
 refine wpAny_bind (slicePart_ pl (wpAny_bind (slicePart_ pu (wpAny_bind (wpAny_pure ?_)))))
 show wpAny _ _ (match Builtin.Slice.sliceAdjust lo hi 1 (n:Int) with | (lo,hi)=>pure (lo,(1:Int),Builtin.Slice.slicePlaces lo hi 1)) _ _ s
 rw [adjust_gen lo hi n]
 show wpAny _ _ (pure (((sIx n 0 lo:Nat):Int),(1:Int),Builtin.Slice.slicePlaces ((sIx n 0 lo:Nat):Int) ((sIx n n hi:Nat):Int) 1)) _ _ s
 rw [places_gen]
 exact wpAny_pure h
theorem pick_gen (xs:Array Value) (i k:Nat):((List.range k).filterMap fun (m:Nat)=>xs[((i:Int)+(m:Int) * 1).toNat]?).toArray=((xs.toList.drop i).take k).toArray:=by
 have e:(fun (m:Nat)=>xs[((i:Int)+(m:Int) * 1).toNat]?)=fun m=>xs[i+m]?:=by
  funext m
  have:((i:Int)+(m:Int) * 1).toNat=i+m:=by omega
  rw [this]
 rw [e]
 have:=pick_run xs i k
 rw [List.filterMap_map] at this
 have e2:((fun x=>xs[x]?) ∘ fun x=>i+x)=fun m=>xs[i+m]?:=rfl
 rw [e2] at this
 rw [this]
theorem getItem_tuple_cut {t sl:Addr} {items:Array Value} {vl vu:Value} {lo hi:Option Int} {Q:Value→Shared→Prop} (ht:IsTup s.heap t items) (hs:s.heap.IsSliceOf sl vl vu .none) (pl:IsPart vl lo) (pu:IsPart vu hi)
  (hw:¬ (sIx items.size 0 lo=0∧sIx items.size items.size hi=items.size))
  (h:Q (.ref s.heap.objs.size) { s with heap:=s.heap.push { cls:=.type "tuple",data:=.seq ((items.toList.drop (sIx items.size 0 lo)).take (sIx items.size items.size hi - sIx items.size 0 lo)).toArray } })
  (hsz:items.size≤sizeLine):wpAny (model prog w) A (getItem (.ref t) (.ref sl)) Q E s:=by
 have htake:sizeOk (.seq ((items.toList.drop (sIx items.size 0 lo)).take (sIx items.size items.size hi - sIx items.size 0 lo)).toArray):=by
  show ((items.toList.drop (sIx items.size 0 lo)).take (sIx items.size items.size hi - sIx items.size 0 lo)).toArray.size≤sizeLine
  rw [List.size_toArray,List.length_take,List.length_drop,Array.length_toList]
  omega
 have hj:sIx items.size items.size hi≤items.size:=sIx_le _ _ (Nat.le_refl _) hi
 obtain ⟨os,hos,hcs,hds⟩:=id hs
 have hTs:s.TypeIs (.ref sl) "slice":=⟨os,hos,hcs⟩
 unfold getItem
 try with_reducible refine wpAny_holding ?_
 first | refine wpAny_bind (wpAny_pure ?_) | skip
 refine wpAny_bind (wpAny_sequenceKey ht.typeIs (by decide) ?_)
 refine wpAny_bind (wpAny_callSpecial?_slot (name:=Str.ofString "__getitem__") ht.typeIs PyProof.Rows.slot_tuple_getitem
  (wpAny_call_entry PyProof.Rows.slot_tuple_getitem ht.typeIs entry_tuple_getitem ?_ (args_tuple_getitem _ _)))
 show wpAny _ _ (Builtin.Tuple.tupleItemsOf (.ref t) >>= _) _ _ s
 refine wpAny_bind (tupleItemsOf_ ht ?_)
 refine wpAny_bind (wpAny_typeOf hTs ?_)
 rw [if_pos (by decide)]
 refine wpAny_bind (sliceApplied_gen hs pl pu ?_)
 have hno:¬ ((((sIx items.size 0 lo:Nat):Int) == 0 && (1:Int) == 1 && (sIx items.size items.size hi - sIx items.size 0 lo) == items.size)=true):=by
  intro q
  rw [Bool.and_eq_true,Bool.and_eq_true] at q
  have q1:((sIx items.size 0 lo:Nat):Int)=0:=eq_of_beq q.1.1
  have q2:sIx items.size items.size hi - sIx items.size 0 lo=items.size:=eq_of_beq q.2
  exact hw ⟨by omega,by omega⟩
 show wpAny _ _ (if (((sIx items.size 0 lo:Nat):Int) == 0 && (1:Int) == 1 && (sIx items.size items.size hi - sIx items.size 0 lo) == items.size)=true then _ else _) _ _ s
 rw [if_neg hno,pick_gen]
 first
  | exact wpAny_bind (m:=Builtin.Tuple.tupleExact _) (wpAny_newObj_type (wpAny_pure ⟨_,rfl,wpAny_pure h⟩) htake)
  | exact wpAny_bind (m:=Builtin.Tuple.tupleExact _) (wpAny_newObj_type (wpAny_bind (wpAny_pure (wpAny_pure ⟨_,rfl,wpAny_pure h⟩))) htake)
  | exact wpAny_bind (wpAny_bind (m:=Builtin.Tuple.tupleExact _) (wpAny_newObj_type (wpAny_pure (wpAny_pure ⟨_,rfl,wpAny_pure h⟩)) htake))
  | exact wpAny_bind (wpAny_bind (m:=Builtin.Tuple.tupleExact _) (wpAny_newObj_type (wpAny_pure ⟨_,rfl,wpAny_pure h⟩) htake))
end
end HT
namespace L2
open PySem PySem.Spec PyProof.Rows
noncomputable abbrev TO:=St→Hp→(Option Int→Hp→Prop)→Prop
noncomputable def PO (X:Cx) (e:Option Expr) (t:TO):Prop :=
 ∀ (pins:List (Addr×Obj)) (s:Shared) (σ:St) (H:Hp) (Q:Option Int→Hp→Prop),Inv X pins σ H s→t σ H Q →
  wpAny (model X.prog X.w) X.A (evalPart e X.env) (fun u s'=>∃ o H',Inv X pins σ H' s'∧IsPart u o∧Q o H') X.xe s
noncomputable def tPart (t:TE):TO:=fun σ H Q=>t σ H fun x H1=>∃ i,x = .int i∧Q (some i) H1
section
variable {X:Cx} {e:Expr} {te:TE} {lo hi:Option Expr} {tl th:TO} {pos p2:Pos}
theorem po_some (h:PE X e te):PO X (some e) (tPart te):=by
 intro pins s σ H Q I hw
 rw [evalPart_some]
 refine thn (h pins s σ H _ I hw) fun u s1 ⟨x,H1,I1,r1,q1⟩=>?_
 obtain ⟨i,rfl,q⟩:=q1
 obtain ⟨t,rfl⟩:=r1
 exact ⟨some i,H1,I1,.int i t,q⟩
noncomputable def SlR (X:Cx) (r:V→Option Int→Option Int→Hp→VK→Prop):Prop :=
 ∀ (pins:List (Addr×Obj)) (s:Shared) (σ:St) (H:Hp) (x:V) (v vl vu:Value) (lo hi:Option Int) (sl:Addr) (Q:VK),Inv X pins σ H s→RelV x v→s.heap.IsSliceOf sl vl vu .none→IsPart vl lo→IsPart vu hi→r x lo hi H Q →
  ∃ T id,typeLookup (.type T) "__getitem__" = pure (some (.builtin id))∧s.TypeIs v T∧wpAny (model X.prog X.w) X.A (getItem v (.ref sl)) (EP X pins σ Q) X.xe s
theorem SlR.or {r r':V→Option Int→Option Int→Hp→VK→Prop} (h:SlR X r) (h':SlR X r'):SlR X (fun x lo hi H Q=>r x lo hi H Q∨r' x lo hi H Q):=by
 intro pins s σ H x v vl vu lo hi sl Q I rx hs pl pu q
 rcases q with q | q
 · exact h pins s σ H x v vl vu lo hi sl Q I rx hs pl pu q
 · exact h' pins s σ H x v vl vu lo hi sl Q I rx hs pl pu q
noncomputable def tSl (r:V→Option Int→Option Int→Hp→VK→Prop) (te:TE) (tl th:TO):TE:=fun σ H Q=>te σ H fun x H1=>tl σ H1 fun l H2=>th σ H2 fun u H3=>r x l u H3 Q
theorem pe_slice {r:V→Option Int→Option Int→Hp→VK→Prop} (hr:SlR X r) (he:PE X e te) (hl:PO X lo tl) (hu:PO X hi th):PE X (.Subscript e (.Slice lo hi none p2) pos) (tSl r te tl th):=by
 intro pins s σ H Q I h
 refine Subscript_ (thn (he pins s σ H _ I h) fun v s1 ⟨x,H1,I1,r1,q1⟩=>?_)
 refine wpAny_Slice (thn (hl pins s1 σ H1 _ I1 q1) fun vl s2 ⟨l,H2,I2,pl,q2⟩=>thn (hu pins s2 σ H2 _ I2 q2) fun vu s3 ⟨u,H3,I3,pu,q3⟩=>?_)
 rw [evalPart_none]
 refine wpAny_pure ?_
 have I4:Inv X pins σ H3 { s3 with heap:=s3.heap.push { cls:=.type "slice",data:=.fields #[vl,vu,.none] } }:=I3.kept (t':=s3.toks) fun b ob q=>Heap.get?_push_of_some _ q
 obtain ⟨T,id,hT,ht,hg⟩:=hr pins { s3 with heap:=s3.heap.push { cls:=.type "slice",data:=.fields #[vl,vu,.none] } } σ H3 x v vl vu l u s3.heap.objs.size Q I4 r1 (Heap.IsSliceOf.new ..) pl pu q3
 show wpAny (model X.prog X.w) X.A (subscriptTail e (.Slice lo hi none p2) v (.ref s3.heap.objs.size)) (EP X pins σ Q) X.xe { s3 with heap:=s3.heap.push { cls:=.type "slice",data:=.fields #[vl,vu,.none] } }
 exact tail_any (ops:=[.ref s3.heap.objs.size,v]) ht hT hg (by with_unfolding_all rfl)
noncomputable def cutV (xs:List V) (lo hi:Option Int):List V:=(xs.drop (HT.sIx xs.length 0 lo)).take (HT.sIx xs.length xs.length hi - HT.sIx xs.length 0 lo)
theorem cutV_length (xs:List V) (lo hi:Option Int):(cutV xs lo hi).length≤xs.length:=by
 unfold cutV
 rw [List.length_take,List.length_drop]
 omega
noncomputable def rSlT (K:PySem.W.Frag):V→Option Int→Option Int→Hp→VK→Prop:=fun x lo hi H Q=>∃ a xs,x = .ref a∧SqT K H a xs ∧
 ¬ (HT.sIx xs.length 0 lo=0∧HT.sIx xs.length xs.length hi=xs.length)∧∀ p,H p=none→Q (.ref p) (upd H p (.tup (cutV xs lo hi)))
theorem sl_tup:SlR X (rSlT X.K):=by
 intro pins s σ H x v vl vu lo hi sl Q I rx hs pl pu h
 obtain ⟨a,xs,rfl,hx,hw,q⟩:=h
 cases rx
 obtain ⟨its,r,ht,hz⟩:=I.tuple hx
 have hlen:its.toArray.size=xs.length:=by rw [List.size_toArray]; exact r.length.symm
 refine ⟨"tuple",_,PyProof.Rows.slot_tuple_getitem.lookup,ht.typeIs,?_⟩
 refine HT.getItem_tuple_cut ht hs pl pu (by rw [hlen]; exact hw) ?_ (by rw [hlen]; exact hz)
 rw [hlen]
 refine ⟨.ref s.heap.objs.size,_,I.laid (t':=s.toks) (o:=.tup (cutV xs lo hi)) (fun b ob q=>Heap.get?_push_of_some _ q) (Nat.le_refl _) ?_,rfl,q _ (I.hok.fresh (Nat.le_refl _))⟩
 exact ⟨Nat.le_trans (cutV_length xs lo hi) hz,_,(r.drop (HT.sIx xs.length 0 lo)).take (HT.sIx xs.length xs.length hi - HT.sIx xs.length 0 lo),IsTup.new _ _⟩
theorem Vals.nil_iff {xs:List V} {us:List Value} (r:Vals xs us):us=[]↔xs=[]:=by
 cases r with
 | nil=>simp
 | cons _ _=>simp
end
end L2
namespace L2
open PySem PySem.Spec PyProof.Rows
noncomputable def ixN (n:Nat) (i:Int):Option Nat:=if 0≤i then (if i < n then some i.toNat else none) else if -(n:Int)≤i then some (i+n).toNat else none
noncomputable def atI {α:Type} (xs:List α) (i:Int):Option α:=(ixN xs.length i).bind fun j=>xs[j]?
theorem ixN_seq {n:Nat} {i:Int} {j:Nat} (h:ixN n i=some j):seqIndex? i n=some j∧j < n∧-(n:Int)≤i∧i < n:=by
 unfold ixN at h
 by_cases h0:0≤i
 · rw [if_pos h0] at h
   by_cases h1:i < n
   · rw [if_pos h1] at h
     have e:i.toNat=j:=Option.some.inj h
     exact ⟨by rw [seqIndex_of h0 h1,e],by omega,by omega,h1⟩
   · rw [if_neg h1] at h; cases h
 · rw [if_neg h0] at h
   by_cases h1 : -(n:Int)≤i
   · rw [if_pos h1] at h
     have e:(i+n).toNat=j:=Option.some.inj h
     exact ⟨by rw [seqIndex_neg (by omega) h1,e],by omega,h1,by omega⟩
   · rw [if_neg h1] at h; cases h
theorem atI_get {α:Type} {xs:List α} {i:Int} {v:α} (h:atI xs i=some v):∃ j,seqIndex? i xs.length=some j∧xs[j]?=some v∧j < xs.length∧-(xs.length:Int)≤i∧i < xs.length:=by
 unfold atI at h
 cases e:ixN xs.length i with
 | none=>rw [e] at h; cases h
 | some j =>
   rw [e] at h
   obtain ⟨h1,h2,h3,h4⟩:=ixN_seq e
   exact ⟨j,h1,h,h2,h3,h4⟩
theorem atI_nat {α:Type} {xs:List α} {j:Nat} {v:α} (h:xs[j]?=some v):atI xs (j:Int)=some v:=by
 have hj:j < xs.length:=(List.getElem?_eq_some_iff.mp h).1
 have e:ixN xs.length (j:Int)=some j:=by
  unfold ixN
  rw [if_pos (by omega),if_pos (by omega)]; simp
 unfold atI; rw [e]; exact h
theorem atI_last {α:Type} (xs:List α) (v:α):atI (xs ++ [v]) (-1)=some v:=by
 have hl:(xs ++ [v]).length=xs.length+1:=by simp
 have e:ixN (xs ++ [v]).length (-1)=some xs.length:=by
  unfold ixN
  rw [hl,if_neg (by decide),if_pos (by omega)]
  congr 1
  omega
 unfold atI
 rw [e]
 show (xs ++ [v])[xs.length]?=some v
 simp
noncomputable def PlainIx (b:Expr):Prop:=∀ o i,subscripted b false o i=operate [o,i] (getItem o i)
noncomputable def IxR (X:Cx) (r:R2):Prop :=
 ∀ (value slice:Expr) (pins:List (Addr×Obj)) (s:Shared) (σ:St) (H:Hp) (x y:V) (v u:Value) (Q:VK),Inv X pins σ H s→RelV x v→RelV y u→r x y H Q →
  subscripted slice false v u=operate [v,u] (getItem v u)→wpAny (model X.prog X.w) X.A (subscriptTail value slice v u) (EP X pins σ Q) X.xe s
noncomputable def MtR (X:Cx) (id:String) (r:V→List V→Hp→VK→Prop):Prop :=
 ∀ (pins:List (Addr×Obj)) (s:Shared) (σ:St) (H:Hp) (x:V) (xs:List V) (v:Value) (us:List Value) (Q:VK),Inv X pins σ H s→RelV x v→Vals xs us→r x xs H Q →
  wpAny (model X.prog X.w) X.A (call (.builtin id) (v :: us)) (EP X pins σ Q) X.xe s
section
variable {X:Cx} {a b:Expr} {ta tb:TE} {pos:Pos}
theorem IxR.or {r r':R2} (h:IxR X r) (h':IxR X r'):IxR X (fun x y H Q=>r x y H Q∨r' x y H Q):=by
 intro value slice pins s σ H x y v u Q I rx ry q hs
 rcases q with q | q
 · exact h value slice pins s σ H x y v u Q I rx ry q hs
 · exact h' value slice pins s σ H x y v u Q I rx ry q hs
theorem pe_ix {r:R2} (hr:IxR X r) (ha:PE X a ta) (hb:PE X b tb) (hs:PlainIx b):PE X (.Subscript a b pos) (tOp r ta tb):=by
 intro pins s σ H Q I h
 exact Subscript_ (binT ha hb I h fun v u s2 x y H2 I2 rx ry q=>hr a b pins s2 σ H2 x y v u Q I2 rx ry q (hs _ _))
noncomputable def rIxL (K:PySem.W.Frag):R2:=fun x y H Q=>∃ p xs i v,x = .ref p∧y = .int i∧SqL K H p xs∧atI xs i=some v∧Q v H
noncomputable def rIxT (K:PySem.W.Frag):R2:=fun x y H Q=>∃ p xs i v,x = .ref p∧y = .int i∧SqT K H p xs∧atI xs i=some v∧Q v H
noncomputable def rIxS:R2:=fun x y H Q=>∃ z i c,x = .str z∧y = .int i∧z.length≤sizeLine∧atI z.cps.toList i=some c∧Q (.str ⟨#[c]⟩) H
theorem ix_list:IxR X (rIxL X.K):=by
 intro value slice pins s σ H x y v u Q I rx ry h hs
 obtain ⟨p,xs,i,z,rfl,rfl,hq,he,q⟩:=h
 cases rx
 obtain ⟨t,rfl⟩:=ry
 obtain ⟨its,r,pl,hz⟩:=I.list hq
 obtain ⟨j,h1,h2,h3,h4,h5⟩:=atI_get he
 obtain ⟨w,ew,rw'⟩:=r.get h2
 have hl:=r.length
 have hn:=line63
 have fin:EP X pins σ Q w s:=⟨z,H,I,rw',q⟩
 by_cases h0:0≤i
 · have hj:i.toNat=j:=by
    rw [seqIndex_of h0 h5] at h1
    exact Option.some.inj h1
   exact item_listR pl.isList h0 (by omega) (by rw [hj]; simpa using ew) fin hs
 · have hj:(i+(its.toArray.size:Int)).toNat=j:=by
    rw [seqIndex_neg (by omega) h4] at h1
    rw [List.size_toArray,← hl]
    exact Option.some.inj h1
   exact subscriptTail_builtinR (x:=w) pl.isList.typeIs slot_list_getitem.lookup
    (wpAny_getItem_list_neg (Q:=fun r s'=>r=w∧EP X pins σ Q r s') pl.isList (by omega) (by rw [List.size_toArray] <;> omega) (by omega) (by rw [hj]; simpa using ew) ⟨rfl,fin⟩) hs
theorem ix_tup:IxR X (rIxT X.K):=by
 intro value slice pins s σ H x y v u Q I rx ry h hs
 obtain ⟨p,xs,i,z,rfl,rfl,hq,he,q⟩:=h
 cases rx
 obtain ⟨t,rfl⟩:=ry
 obtain ⟨its,r,pl,hz⟩:=I.tuple hq
 obtain ⟨j,h1,h2,h3,h4,h5⟩:=atI_get he
 obtain ⟨w,ew,rw'⟩:=r.get h2
 have hl:=r.length
 have hn:=line63
 have fin:EP X pins σ Q w s:=⟨z,H,I,rw',q⟩
 exact subscriptTail_builtinR (x:=w) pl.typeIs slot_tuple_getitem.lookup
  (getItem_tuple (j:=j) (Q:=fun r s'=>r=w∧EP X pins σ Q r s') pl (by omega) (by omega) (by rw [List.size_toArray,← hl]; exact h1) (by simpa using ew) ⟨rfl,fin⟩) hs
theorem ix_str:IxR X rIxS:=by
 intro value slice pins s σ H x y v u Q I rx ry h hs
 obtain ⟨z,i,c,rfl,rfl,hz,he,q⟩:=h
 obtain ⟨t,rfl⟩:=rx
 obtain ⟨t',rfl⟩:=ry
 obtain ⟨j,h1,h2,h3,h4,h5⟩:=atI_get he
 have hl:z.cps.toList.length=z.length:=by simp [Str.length]
 rw [hl] at h1 h4 h5
 have hn:=line63
 exact tail_any (typeIs_str s z t) slot_str_getitem.lookup (getItem_str (c:=c) (by
  have e1:decide (i < -(2 ^ 63:Int))=false:=decide_eq_false (by omega)
  have e2:decide (i ≥ 2 ^ 63)=false:=decide_eq_false (by omega)
  rw [e1,e2,Bool.or_false]) (by rw [h1]; simpa using h2) ⟨.str ⟨#[c]⟩,H,I.tok _,⟨_,rfl⟩,q⟩) hs
noncomputable def rIx (K:PySem.W.Frag):R2:=fun x y H Q=>rIxL K x y H Q∨rIxT K x y H Q∨rIxS x y H Q
theorem ix_seq:IxR X (rIx X.K):=ix_list.or (ix_tup.or ix_str)
theorem mapSeq_set (its:List Value) (n j:Nat) (u:Value):Obj.mapSeq (·.setIfInBounds j u) { cls:=.type "list",data:=.seq its.toArray n }={ cls:=.type "list",data:=.seq (its.set j u).toArray n }:=by
 simp [Obj.mapSeq]
theorem Inv.lst {pins:List (Addr×Obj)} {σ:St} {H:Hp} {s:Shared} {p:Addr} {xs:List V} (I:Inv X pins σ H s) (h:H p=some (.lst xs)) :
  ∃ (its:List Value) (n:Nat),Vals xs its∧s.heap.get? p=some { cls:=.type "list",data:=.seq its.toArray n }∧xs.length≤sizeLine:=by
 obtain ⟨z,its,n,r,e⟩:=I.hok p _ h
 exact ⟨its,n,r,e,z⟩
theorem Inv.lstUpd {pins:List (Addr×Obj)} {σ:St} {H:Hp} {s:Shared} {p:Addr} {xs ys:List V} {its its':List Value} {n n':Nat} {f:Obj→Obj} (I:Inv X pins σ H s) (h:H p=some (.lst xs))
  (ho:s.heap.get? p=some { cls:=.type "list",data:=.seq its.toArray n }) (hf:f { cls:=.type "list",data:=.seq its.toArray n }={ cls:=.type "list",data:=.seq its'.toArray n' }) (r:Vals ys its') (hz:ys.length≤sizeLine) (t:Nat) :
  Inv X pins σ (upd H p (.lst ys)) { s with heap:=s.heap.update p f,toks:=t }:=by
 have e:(s.heap.update p f).get? p=some { cls:=.type "list",data:=.seq its'.toArray n' }:=by
  rw [Heap.get?_update_self f ho (by rw [hf] <;> rfl),hf]
 refine I.write (x:=p) (e:=p) (by rw [h]; trivial) (.inl rfl) (fun b u hb q=>(Heap.get?_update_other _ _ (Ne.symm hb)).trans q) ⟨_,e⟩ ?_
 exact ⟨hz,its',n',r,e⟩
noncomputable def rSetL:V→V→V→Hp→(Hp→Prop)→Prop:=fun o i v H Q=>∃ p xs k j,o = .ref p∧i = .int k∧H p=some (.lst xs)∧ixN xs.length k=some j∧Q (upd H p (.lst (xs.set j v)))
theorem set_list:PSet X rSetL:=by
 intro pins s σ H o i v ov iv u Q I ro ri rv h
 obtain ⟨p,xs,k,j,rfl,rfl,hp,hj,q⟩:=h
 cases ro
 obtain ⟨t,rfl⟩:=ri
 obtain ⟨its,n,r,ho,hz⟩:=I.lst hp
 obtain ⟨h1,h2,h3,h4⟩:=ixN_seq hj
 have hl:=r.length
 have hn:=line63
 have I':Inv X pins σ (upd H p (.lst (xs.set j v))) { s with heap:=s.heap.update p (Obj.mapSeq (·.setIfInBounds j u)) } :=
  I.lstUpd hp ho (mapSeq_set its n j u) (r.set rv j) (by rw [List.length_set]; exact hz) s.toks
 by_cases h0:0≤k
 · have hk:k.toNat=j:=by
    rw [seqIndex_of h0 h4] at h1
    exact Option.some.inj h1
   exact PySem.W.ki_setAt ho h0 (by omega) (by rw [List.size_toArray,← hl]; exact h4) (by rw [hk]; exact ⟨_,I',q⟩)
 · have hk:(k+(its.toArray.size:Int)).toNat=j:=by
    rw [seqIndex_neg (by omega) h3] at h1
    rw [List.size_toArray,← hl]
    exact Option.some.inj h1
   exact PySem.W.ki_setBack ho (by omega) (by rw [List.size_toArray,← hl]; exact h3) (by omega) (by rw [hk]; exact ⟨_,I',q⟩)
theorem slice_bounds (lo hi:Option Int) (n:Nat):(sliceBounds lo hi none n).1=((HT.sIx n 0 lo:Nat):Int)∧(sliceBounds lo hi none n).2.1=((HT.sIx n n hi:Nat):Int)∧(sliceBounds lo hi none n).2.2=1:=by
 refine ⟨?_,?_,rfl⟩
 · cases lo with
   | none=>simp [sliceBounds,HT.sIx]
   | some i =>
     simp only [sliceBounds,HT.sIx,Option.getD_none,show (1:Int) > 0 by decide,if_true]
     by_cases h:i < 0
     · simp only [h,if_true] <;> omega
     · simp only [h,if_false] <;> omega
 · cases hi with
   | none=>simp [sliceBounds,HT.sIx]
   | some i =>
     simp only [sliceBounds,HT.sIx,Option.getD_none,show (1:Int) > 0 by decide,if_true]
     by_cases h:i < 0
     · simp only [h,if_true] <;> omega
     · simp only [h,if_false] <;> omega
theorem slicePick_cut (its:List Value) (lo hi:Option Int):slicePick its.toArray lo hi none=((its.drop (HT.sIx its.length 0 lo)).take (HT.sIx its.length its.length hi - HT.sIx its.length 0 lo)).toArray:=by
 obtain ⟨h1,h2,h3⟩:=slice_bounds lo hi its.toArray.size
 unfold slicePick
 rw [h1,h2,h3]
 simp only [sliceRange_one,pick_run,List.size_toArray] <;> rfl
noncomputable def rSlL (K:PySem.W.Frag):V→Option Int→Option Int→Hp→VK→Prop:=fun x lo hi H Q=>∃ a xs,x = .ref a∧SqL K H a xs∧∀ p,H p=none→Q (.ref p) (upd H p (.lst (cutV xs lo hi)))
theorem sl_list:SlR X (rSlL X.K):=by
 intro pins s σ H x v vl vu lo hi sl Q I rx hs pl pu h
 obtain ⟨a,xs,rfl,hx,q⟩:=h
 cases rx
 obtain ⟨its,r,ht,hz⟩:=I.list hx
 have hlen:=r.length
 refine ⟨"list",_,slot_list_getitem.lookup,ht.isList.typeIs,?_⟩
 refine wpAny_getItem_list_slice ht.isList hs pl pu .none (by simp) ?_ (by rw [List.size_toArray] <;> omega)
 rw [slicePick_cut,← hlen]
 refine ⟨.ref s.heap.objs.size,_,I.laid (t':=s.toks) (o:=.lst (cutV xs lo hi)) (fun b ob q=>Heap.get?_push_of_some _ q) (Nat.le_refl _) ?_,rfl,q _ (I.hok.fresh (Nat.le_refl _))⟩
 exact ⟨Nat.le_trans (cutV_length xs lo hi) hz,_,0,(r.drop (HT.sIx xs.length 0 lo)).take (HT.sIx xs.length xs.length hi - HT.sIx xs.length 0 lo),Heap.get?_push_size _ rfl⟩
noncomputable def flatV:V→Bool
 | .non=>true
 | .bl _=>true
 | .int _=>true
 | .str _=>true
 | _=>false
noncomputable def eqV:V→V→Bool
 | .non,.non=>true
 | .bl a,.bl b=>a == b
 | .bl a,.int b=>(if a then 1 else 0) == b
 | .int a,.bl b=>a == (if b then 1 else 0)
 | .int a,.int b=>a == b
 | .str a,.str b=>a == b
 | _,_=>false
theorem eqAt_V {A:Around} {s:Shared} {y x:V} {u v:Value} (ry:RelV y u) (rx:RelV x v) (fy:flatV y=true) (fx:flatV x=true):SeqAt.EqAt A s u v (eqV y x):=by
 cases y with
 | non =>
   cases ry
   cases x with
   | non=>cases rx; exact SeqAt.EqAt.same _
   | bl b=>cases rx; exact SeqAt.EqAt.none_bool b
   | int b=>obtain ⟨t,rfl⟩:=rx; exact SeqAt.EqAt.none_int b t
   | str b=>obtain ⟨t,rfl⟩:=rx; exact SeqAt.EqAt.none_str b t
   | _=>exact absurd (show false=true from fx) Bool.false_ne_true
 | bl a =>
   cases ry
   cases x with
   | non=>cases rx; exact SeqAt.EqAt.bool_none a
   | bl b=>cases rx; exact SeqAt.EqAt.bool_bool a b
   | int b=>obtain ⟨t,rfl⟩:=rx; exact SeqAt.EqAt.bool_int a b t
   | str b=>obtain ⟨t,rfl⟩:=rx; exact SeqAt.EqAt.bool_str a b t
   | _=>exact absurd (show false=true from fx) Bool.false_ne_true
 | int a =>
   obtain ⟨t',rfl⟩:=ry
   cases x with
   | non=>cases rx; exact SeqAt.EqAt.int_none a t'
   | bl b=>cases rx; exact SeqAt.EqAt.int_bool a t' b
   | int b=>obtain ⟨t,rfl⟩:=rx; exact SeqAt.EqAt.int_int a t' b t
   | str b=>obtain ⟨t,rfl⟩:=rx; exact SeqAt.EqAt.int_str a t' b t
   | _=>exact absurd (show false=true from fx) Bool.false_ne_true
 | str a =>
   obtain ⟨t',rfl⟩:=ry
   cases x with
   | non=>cases rx; exact SeqAt.EqAt.str_none a t'
   | bl b=>cases rx; exact SeqAt.EqAt.str_bool a t' b
   | int b=>obtain ⟨t,rfl⟩:=rx; exact SeqAt.EqAt.str_int a t' b t
   | str b=>obtain ⟨t,rfl⟩:=rx; exact SeqAt.EqAt.str_str a t' b t
   | _=>exact absurd (show false=true from fx) Bool.false_ne_true
 | _=>exact absurd (show false=true from fy) Bool.false_ne_true
noncomputable def eqU (x:V) (u:Value):Bool:=match u with
 | .none=>eqV .non x
 | .bool b=>eqV (.bl b) x
 | .int i _=>eqV (.int i) x
 | .str z _=>eqV (.str z) x
 | _=>false
theorem eqU_of {x y:V} {u:Value} (r:RelV y u) (f:flatV y=true):eqU x u=eqV y x:=by
 cases y with
 | non=>cases r; rfl
 | bl b=>cases r; rfl
 | int i=>obtain ⟨t,rfl⟩:=r; rfl
 | str z=>obtain ⟨t,rfl⟩:=r; rfl
 | _=>exact absurd (show false=true from f) Bool.false_ne_true
theorem any_eqU {x:V}:∀ {xs:List V} {us:List Value},Vals xs us→xs.all flatV=true→us.any (eqU x)=xs.any fun y=>eqV y x
 | _,_,.nil,_=>rfl
 | y :: xs,u :: us,.cons r t,f=>by
   rw [List.all_cons,Bool.and_eq_true] at f
   rw [List.any_cons,List.any_cons,eqU_of r f.1,any_eqU t f.2]
theorem mem_eqAt {A:Around} {s:Shared} {x:V} {v:Value} (rx:RelV x v) (fx:flatV x=true):∀ {xs:List V} {us:List Value},Vals xs us→xs.all flatV=true→∀ u∈us,SeqAt.EqAt A s u v (eqU x u)
 | _,_,.nil,_=>fun u hu=>by cases hu
 | y :: xs,u :: us,.cons r t,f=>fun u' hu=>by
   rw [List.all_cons,Bool.and_eq_true] at f
   rcases List.mem_cons.mp hu with rfl | hu
   · rw [eqU_of r f.1]; exact eqAt_V r rx f.1 fx
   · exact mem_eqAt rx fx t f.2 u' hu
noncomputable def inV (x:V) (xs:List V):Bool:=xs.any fun y=>eqV y x
noncomputable def rIn (K:PySem.W.Frag) (neg:Bool):R2:=fun x y H Q=>∃ p xs,y = .ref p∧(SqL K H p xs∨SqT K H p xs)∧flatV x=true∧xs.all flatV=true∧Q (.bl (if neg then !inV x xs else inV x xs)) H
theorem op_in_seq:OpR X (compareOp .In) (rIn X.K false):=by
 intro pins s σ H x y v u Q I rx ry h
 obtain ⟨p,xs,rfl,hq,fx,fs,q⟩:=h
 cases ry
 rcases hq with hq | hq
 · obtain ⟨its,r,pl,hz⟩:=I.list hq
   refine SeqAt.in_listAt (eqU x) pl.isList (fun w hw=>mem_eqAt rx fx r fs w (by simpa using hw)) ⟨.bl _,H,I,rfl,?_⟩
   rw [show its.toArray.any (eqU x)=its.any (eqU x) by simp,any_eqU r fs]
   exact q
 · obtain ⟨its,r,pl,hz⟩:=I.tuple hq
   refine SeqAt.in_tupleAt (eqU x) pl (fun w hw=>mem_eqAt rx fx r fs w (by simpa using hw)) ⟨.bl _,H,I,rfl,?_⟩
   rw [show its.toArray.any (eqU x)=its.any (eqU x) by simp,any_eqU r fs]
   exact q
theorem call_len_seq:CallR X (.builtin "len") (fun xs H Q=>∃ p ys,xs=[.ref p]∧(SqL X.K H p ys∨SqT X.K H p ys)∧Q (.int ys.length) H):=by
 intro pins s σ H xs us Q I r h
 obtain ⟨p,ys,rfl,hq,q⟩:=h
 obtain ⟨u,rfl,rx⟩:=vals1 r
 cases rx
 have hn:=line63
 rcases hq with hq | hq
 · obtain ⟨its,r',pl,hz⟩:=I.list hq
   have hlen:=r'.length
   exact Calls.call_len_list pl.isList (by simp only [List.size_toArray] <;> omega) ⟨.int ys.length,H,I.tok _,⟨s.toks+1,by rw [List.size_toArray,hlen]⟩,q⟩
 · obtain ⟨its,r',pl,hz⟩:=I.tuple hq
   have hlen:=r'.length
   exact len_tuple pl (by simp only [List.size_toArray] <;> omega) ⟨.int ys.length,H,I.tok _,⟨s.toks+1,by rw [List.size_toArray,hlen]⟩,q⟩
theorem call_len_str:CallR X (.builtin "len") (fun xs H Q=>∃ z,xs=[.str z]∧z.length≤sizeLine∧Q (.int z.length) H):=by
 intro pins s σ H xs us Q I r h
 obtain ⟨z,rfl,hz,q⟩:=h
 obtain ⟨u,rfl,t,rfl⟩:=vals1 r
 have hn:=line63
 exact len_str (by omega) ⟨.int z.length,H,I.tok _,⟨_,rfl⟩,q⟩
theorem CallR.or {f:Value} {r r':List V→Hp→VK→Prop} (h:CallR X f r) (h':CallR X f r'):CallR X f (fun xs H Q=>r xs H Q∨r' xs H Q):=by
 intro pins s σ H xs us Q I rs q
 rcases q with q | q
 · exact h pins s σ H xs us Q I rs q
 · exact h' pins s σ H xs us Q I rs q
theorem call_list_of:CallR X (.type "list") (fun xs H Q=>∃ p ys,xs=[.ref p]∧(SqL X.K H p ys∨SqT X.K H p ys)∧∀ l,H l=none→Q (.ref l) (upd H l (.lst ys))):=by
 intro pins s σ H xs us Q I r h
 obtain ⟨p,ys,rfl,hq,q⟩:=h
 obtain ⟨u,rfl,rx⟩:=vals1 r
 cases rx
 have fin:∀ (its:List Value),Vals ys its→ys.length≤sizeLine→∀ (h':Heap) (c':Nat),(∀ b o',s.heap.get? b=some o'→h'.get? b=some o') →
   h'.get? s.heap.objs.size=some { cls:=.type "list",dict:=none,data:=.seq its.toArray c',slots:=#[] }→EP X pins σ Q (.ref s.heap.objs.size) { s with heap:=h' }:=fun its r' hz h' c' kp e =>
  ⟨.ref s.heap.objs.size,_,I.laid (t':=s.toks) kp (Nat.le_refl _) (show ObjOk X.prog X.w _ h' _ (.lst ys) from ⟨hz,its,c',r',e⟩),rfl,q _ (I.hok.fresh (Nat.le_refl _))⟩
 rcases hq with hq | hq
 · obtain ⟨its,r',pl,hz⟩:=I.list hq
   have hlen:=r'.length
   obtain ⟨o,ho,hc,n,hd⟩:=pl.isList
   exact call_list_seq p (.inl rfl) ho hc hd (fun h' c' kp e=>fin its r' hz h' c' kp e) (by simp only [List.size_toArray] <;> omega)
 · obtain ⟨its,r',pl,hz⟩:=I.tuple hq
   have hlen:=r'.length
   obtain ⟨o,ho,hc,n,hd⟩:=pl
   exact call_list_seq p (.inr rfl) ho hc hd (fun h' c' kp e=>fin its r' hz h' c' kp e) (by simp only [List.size_toArray] <;> omega)
theorem call_tuple_of:CallR X (.type "tuple") (fun xs H Q=>∃ p ys,xs=[.ref p]∧((SqL X.K H p ys∧∀ l,H l=none→Q (.ref l) (upd H l (.tup ys)))∨(SqT X.K H p ys∧Q (.ref p) H))):=by
 intro pins s σ H xs us Q I r h
 obtain ⟨p,ys,rfl,h⟩:=h
 obtain ⟨u,rfl,rx⟩:=vals1 r
 cases rx
 rcases h with ⟨hq,q⟩ | ⟨hq,q⟩
 · obtain ⟨its,r',pl,hz⟩:=I.list hq
   have hlen:=r'.length
   refine call_tuple_list pl.isList (fun h' kp=>?_) (by simp only [List.size_toArray] <;> omega)
   have I1:Inv X pins σ H { s with heap:=h' }:=I.kept (t':=s.toks) kp
   have I2:Inv X pins σ (upd H h'.objs.size (.tup ys)) { s with heap:=h'.push { cls:=.type "tuple",data:=.seq its.toArray } } :=
    I1.laid (t':=s.toks) (fun b o e=>Heap.get?_push_of_some _ e) (Nat.le_refl _) (show ObjOk X.prog X.w _ _ _ (.tup ys) from ⟨hz,its,r',IsTup.new _ _⟩)
   exact ⟨.ref h'.objs.size,_,I2,rfl,q _ (I1.hok.fresh (Nat.le_refl _))⟩
 · obtain ⟨its,r',pl,hz⟩:=I.tuple hq
   exact call_tuple_same pl ⟨.ref p,H,I,rfl,q⟩
noncomputable def tyV (K:PySem.W.Frag) (T:String) (x:V) (H:Hp):Prop:=match x with
 | .str _=>T="str"
 | .int _=>T="int"
 | .ref p=>(T="list"∧∃ xs,SqL K H p xs)∨(T="tuple"∧∃ o,K.lookup p=some o∧o.cls = .type "tuple"∧o.dict=none) ∨
    (T="dict"∧((∃ kvs,H p=some (.dK kvs))∨∃ kvs,H p=some (.dT kvs)))∨(T="set"∧∃ S n,H p=some (.set S n))
 | _=>False
theorem tyV_is {pins:List (Addr×Obj)} {σ:St} {H:Hp} {s:Shared} {T:String} {x:V} {v:Value} (I:Inv X pins σ H s) (r:RelV x v) (ty:tyV X.K T x H) :
  s.TypeIs v T∧∀ a,v = .ref a→∃ ob,s.heap.get? a=some ob∧ob.dict=none:=by
 cases x with
 | str z =>
   obtain ⟨t,rfl⟩:=r
   cases (show T="str" from ty)
   exact ⟨typeIs_str s z t,fun _ e=>nomatch e⟩
 | int i =>
   obtain ⟨t,rfl⟩:=r
   cases (show T="int" from ty)
   exact ⟨typeIs_int s i t,fun _ e=>nomatch e⟩
 | ref p =>
   cases r
   rcases ty with ⟨rfl,xs,hq⟩ | ⟨rfl,o,hk,hc,hd⟩ | ⟨rfl,hk⟩ | ⟨rfl,S,n,hk⟩
   · obtain ⟨its,_,pl,_⟩:=I.list hq
     refine ⟨pl.isList.typeIs,fun a e=>?_⟩
     cases e
     obtain ⟨o,n,e,c,hd,_⟩:=pl
     exact ⟨o,e,hd⟩
   · refine ⟨⟨o,I.kIn p o hk,hc⟩,fun a e=>?_⟩
     cases e
     exact ⟨o,I.kIn _ o hk,hd⟩
   · have z:∃ o,s.heap.get? p=some o∧o.ExactDict:=by
      rcases hk with ⟨kvs,hk⟩ | ⟨kvs,hk⟩
      · obtain ⟨_,_,_,_,o,_,_,e,ex,_⟩:=I.hok p _ hk
        exact ⟨o,e,ex⟩
      · obtain ⟨_,_,_,_,o,_,_,e,ex,_⟩:=I.hok p _ hk
        exact ⟨o,e,ex⟩
     obtain ⟨o,e,ex⟩:=z
     refine ⟨⟨o,e,ex.1⟩,fun a e2=>?_⟩
     cases e2
     exact ⟨o,e,ex.2.1⟩
   · obtain ⟨o,_,_,_,e,ex,_⟩:=I.hok p _ hk
     refine ⟨⟨o,e,ex.1⟩,fun a e2=>?_⟩
     cases e2
     exact ⟨o,e,ex.2.1⟩
 | _=>exact False.elim ty
noncomputable def tBM0 (K:PySem.W.Frag) (T:String) (r:V→List V→Hp→VK→Prop) (to:TE):TE:=fun σ H Q=>to σ H fun x H1=>tyV K T x H1∧r x [] H1 Q
noncomputable def tBM (K:PySem.W.Frag) (T:String) (r:V→List V→Hp→VK→Prop) (to:TE) (t:TA):TE:=fun σ H Q=>to σ H fun x H1=>tyV K T x H1∧t σ H1 fun xs H2=>r x xs H2 Q
variable {o e:Expr} {es:List Expr} {to:TE} {t:TA} {name:Str} {apos cpos:Pos} {T id:String} {r:V→List V→Hp→VK→Prop}
theorem pe_bm0 (pa:PlainAttrs T) (slot:Slot T name id) (hty:typeOf (.builtin id)=pure (.type "method_descriptor")) (hm:MtR X id r) (ho:PE X o to)
  (hbase:attributeBase o name X.env (eval o X.env)=eval o X.env:=by rfl) (hline:(apos.endLine == cpos.line)=true:=by rfl):PE X (.Call (.Attribute o name apos) [] [] cpos) (tBM0 X.K T r to):=by
 intro pins s σ H Q I h
 refine wpAny_Call_method0_late hbase hline (thn (ho pins s σ H _ I h) fun v s1 ⟨x,H1,I1,r1,ty,q1⟩=>?_)
 obtain ⟨h1,h2⟩:=tyV_is I1 r1 ty
 exact ⟨T,id,pa,slot,hty,h1,h2,Calls.callWith_builtin rfl (PySem.evalArgs_none (hm pins s1 σ H1 x [] v [] Q I1 r1 .nil q1))⟩
theorem pe_bm (pa:PlainAttrs T) (slot:Slot T name id) (hty:typeOf (.builtin id)=pure (.type "method_descriptor")) (hm:MtR X id r) (ho:PE X o to) (ha:PA X (e :: es) t)
  (hbase:attributeBase o name X.env (eval o X.env)=eval o X.env:=by rfl)
  (hfew:((backTo cpos (starEach (e :: es) X.env)).all (fun x=>!x.1) && (backToKw cpos (keywordEach [] X.env)).all (fun x=>x.1.isSome)
    && decide ((e :: es).length+([]:List Keyword).length+(if ([]:List Keyword).isEmpty then 0 else 1) < 30))=true:=by rfl)
  (hline:(apos.endLine == cpos.line)=true:=by rfl) (hs:starEach (e :: es) X.env=(false,eval e X.env) :: starEach es X.env:=by rfl) (hplain:(backTo cpos (starEach es X.env)).any (·.1)=false:=by rfl) :
  PE X (.Call (.Attribute o name apos) (e :: es) [] cpos) (tBM X.K T r to t):=by
 intro pins s σ H Q I h
 refine wpAny_Call_method_late hbase hfew hline rfl (thn (ho pins s σ H _ I h) fun v s1 ⟨x,H1,I1,r1,ty,q1⟩=>?_)
 obtain ⟨h1,h2⟩:=tyV_is I1 r1 ty
 refine ⟨T,id,pa,slot,hty,h1,h2,?_⟩
 have hA:=ha cpos pins s1 σ H1 _ I1 q1
 rw [hs] at hA ⊢
 refine Calls.callWith_builtin (by show (false || (backTo cpos (starEach es X.env)).any (·.1))=false; rw [hplain] <;> rfl) (Calls.evalArgs_plain ?_)
 exact thn hA fun us s2 ⟨vs,H2,I2,r2,q2⟩=>hm pins s2 σ H2 x vs v us Q I2 r1 r2 q2
end
end L2
namespace L2
open PySem PySem.Spec PyProof.Rows
noncomputable def MtM (X:Cx) (id:String) (r:V→List V→Hp→VK→Prop):Prop :=
 ∀ (pins:List (Addr×Obj)) (s:Shared) (σ:St) (H:Hp) (x:V) (xs:List V) (v:Value) (us:List Value) (Q:VK),Inv X pins σ H s→RelV x v→Vals xs us→r x xs H Q →
  wpAny (model X.prog X.w) X.A (call (.builtin id) (v :: us)) (EP X pins σ Q) X.xe s
theorem Vals.one:∀ {x:V} {us:List Value},Vals [x] us→∃ u,us=[u]∧RelV x u
 | _,_,.cons r .nil=>⟨_,rfl,r⟩
theorem Vals.zero:∀ {us:List Value},Vals [] us→us=[]
 | _,.nil=>rfl
theorem Vals.dropLast {xs:List V} {us:List Value} (h:Vals xs us):Vals xs.dropLast us.dropLast:=by
 induction h with
 | nil=>exact .nil
 | cons r t ih =>
   cases t with
   | nil=>exact .nil
   | cons q t'=>exact .cons r ih
theorem Vals.rep {xs:List V} {us:List Value} (h:Vals xs us):∀ k:Nat,Vals (List.replicate k xs).flatten (List.replicate k us).flatten
 | 0=>.nil
 | k+1=>by
   rw [List.replicate_succ,List.replicate_succ,List.flatten_cons,List.flatten_cons]
   exact Vals.append h (Vals.rep h k)
theorem erase_last {α:Type} (l:List α):l.eraseIdx (l.length - 1)=l.dropLast:=by
 induction l with
 | nil=>rfl
 | cons a r ih =>
   cases r with
   | nil=>rfl
   | cons b r =>
     have e:(a :: b :: r).length - 1=((b :: r).length - 1)+1:=by
      have h1:(a :: b :: r).length=r.length+2:=rfl
      have h2:(b :: r).length=r.length+1:=rfl
      omega
     rw [e,List.eraseIdx_cons_succ,ih]
     all_goals rfl
theorem foldl_rep (its:List Value):∀ (k:Nat) (acc:List Value),
  List.foldl (fun x1 x2=>x1 ++ x2) acc.toArray (List.replicate k its.toArray)=(acc ++ (List.replicate k its).flatten).toArray
 | 0,acc=>by simp
 | k+1,acc=>by
   have e:acc.toArray ++ its.toArray=(acc ++ its).toArray:=by simp
   have e2:(acc ++ its) ++ (List.replicate k its).flatten=acc ++ (List.replicate (k+1) its).flatten:=by
    rw [List.replicate_succ,List.flatten_cons,List.append_assoc]
   rw [← e2,← foldl_rep its k (acc ++ its),← e,List.replicate_succ,List.foldl_cons]
section
variable {X:Cx} {pins:List (Addr×Obj)} {σ:St} {H:Hp} {s:Shared} {l b:Addr} {xs ys zs:List V}
theorem Inv.lset {its its':List Value} {n:Nat} {f:Array Value→Array Value} {t':Nat} (I:Inv X pins σ H s) (hH:H l=some (.lst xs))
  (e:s.heap.get? l=some { cls:=.type "list",data:=.seq its.toArray n }) (hf:f its.toArray=its'.toArray) (hv:Vals ys its') (hz:ys.length≤sizeLine) :
  Inv X pins σ (upd H l (.lst ys)) { s with heap:=s.heap.update l (Obj.mapSeq f),toks:=t' }:=by
 have q:=PySem.IsL.update e f
 rw [hf] at q
 refine I.write (x:=l) (e:=l) (by rw [hH]; exact trivial) (.inl rfl) (fun b' u hb hu=>(Heap.get?_update_other s.heap (Obj.mapSeq f) (Ne.symm hb)).trans hu) ⟨_,q⟩ ?_
 exact ⟨hz,its',_,hv,q⟩
theorem Inv.lnew {its:List Value} {t':Nat} (I:Inv X pins σ H s) (hv:Vals ys its) (hz:ys.length≤sizeLine) :
  Inv X pins σ (upd H s.heap.objs.size (.lst ys)) { s with heap:=s.heap.push { cls:=.type "list",data:=.seq its.toArray },toks:=t' } :=
 I.laid (fun _ _ q=>Heap.get?_push_of_some _ q) (Nat.le_refl _) ⟨hz,its,0,hv,Heap.get?_push_size _ rfl⟩
theorem Inv.fresh (I:Inv X pins σ H s):H s.heap.objs.size=none:=I.hok.fresh (Nat.le_refl _)
theorem Inv.lstM (I:Inv X pins σ H s) (hH:H l=some (.lst xs)):xs.length≤sizeLine∧∃ (its:List Value) (n:Nat),Vals xs its∧xs.length=its.length∧s.heap.get? l=some { cls:=.type "list",data:=.seq its.toArray n }:=by
 obtain ⟨z,its,n,r,e⟩:=I.hok l _ hH
 exact ⟨z,its,n,r,r.length,e⟩
theorem notLongL {n:Nat} (h:n≤sizeLine):Builtin.List.listTooLong n=false:=by
 unfold Builtin.List.listTooLong
 exact decide_eq_false (by omega)
end
section
variable {X:Cx}
noncomputable def rAppend:V→List V→Hp→VK→Prop:=fun x vs H Q=>∃ l xs y,x = .ref l∧vs=[y]∧H l=some (.lst xs)∧xs.length < sizeLine∧Q .non (upd H l (.lst (xs ++ [y])))
theorem mt_append:MtM X "list.append" rAppend:=by
 intro pins s σ H x vs v us Q I rx rv h
 obtain ⟨l,xs,y,rfl,rfl,hH,hz,q⟩:=h
 cases rx
 obtain ⟨u,rfl,ru⟩:=rv.one
 obtain ⟨z,its,n,r,hl,e⟩:=I.lstM hH
 refine call_meets F.slot_list_append ⟨_,e,rfl⟩ F.entry_list_append (F.args_list_append_2 _ _) (PySem.list_append l its.toArray n u (by rw [List.size_toArray]; omega)) ⟨e,?_⟩
 refine ⟨.non,_,I.lset (its':=its ++ [u]) hH e (by simp) (r.append (.cons ru .nil)) ?_,rfl,q⟩
 rw [List.length_append,List.length_singleton]
 omega
noncomputable def rPop:V→List V→Hp→VK→Prop:=fun x vs H Q=>∃ l xs y,x = .ref l∧vs=[]∧H l=some (.lst xs)∧xs[xs.length - 1]?=some y∧Q y (upd H l (.lst xs.dropLast))
theorem mt_pop:MtM X "list.pop" rPop:=by
 intro pins s σ H x vs v us Q I rx rv h
 obtain ⟨l,xs,y,rfl,rfl,hH,hy,q⟩:=h
 cases rx
 have hus:=rv.zero
 subst hus
 obtain ⟨z,its,n,r,hl,e⟩:=I.lstM hH
 obtain ⟨u,hu,ru⟩:=r.get hy
 have hy':its.toArray[its.toArray.size - 1]?=some u:=by
  show its.toArray[its.length - 1]?=some u
  rw [← Array.getElem?_toList,← hl]
  exact hu
 refine call_meets F.slot_list_pop ⟨_,e,rfl⟩ F.entry_list_pop (F.args_list_pop_1 _) (MeetsSeq.list_pop_last l its.toArray n u hy' (by rw [List.size_toArray]; omega)) ⟨e,?_⟩
 refine ⟨y,_,I.lset (its':=its.dropLast) hH e ?_ r.dropLast ?_,ru,q⟩
 · show its.toArray.eraseIdxIfInBounds (its.toArray.size - 1)=its.dropLast.toArray
   rw [List.size_toArray,List.eraseIdxIfInBounds_toArray,erase_last]
 · rw [List.length_dropLast]
   omega
noncomputable def rRep:R2:=fun x y H Q=>∃ l k xs,x = .ref l∧y = .int k∧H l=some (.lst xs)∧-(2 ^ 63)≤k∧k < 2 ^ 63∧xs.length * k.toNat≤sizeLine ∧
 ∀ p,H p=none→Q (.ref p) (upd H p (.lst (List.replicate k.toNat xs).flatten))
theorem len_rep {α:Type} (xs:List α) (k:Nat):(List.replicate k xs).flatten.length=k * xs.length:=by
 induction k with
 | zero=>simp
 | succ k ih=>rw [List.replicate_succ,List.flatten_cons,List.length_append,ih,Nat.succ_mul,Nat.add_comm]
theorem op_rep:OpR X (binaryOp .Mult) rRep:=by
 intro pins s σ H x y v u Q I rx ry h
 obtain ⟨l,k,xs,rfl,rfl,hH,h1,h2,hz,q⟩:=h
 cases rx
 obtain ⟨t,rfl⟩:=ry
 obtain ⟨z,its,n,r,hl,e⟩:=I.lstM hH
 have hlen:its.toArray.size * k.toNat≤sizeLine:=by rw [List.size_toArray,← hl]; exact hz
 have hcap:¬ its.toArray.size * k.toNat > (2 ^ 63 - 1) / 8:=by
  have:(sizeLine:Nat)≤(2 ^ 63 - 1) / 8:=by decide
  omega
 have hfit:¬ (!Builtin.List.listFitsIndex k)=true:=by
  rw [fitsIndex_both h1 h2]
  exact Bool.false_ne_true
 have hlong:¬ Builtin.List.listTooLong (its.toArray.size * k.toNat)=true:=by
  rw [notLongL hlen]
  exact Bool.false_ne_true
 have hnew:List.foldl (fun x1 x2=>x1 ++ x2) #[] (List.replicate (if its.toArray.isEmpty=true then 0 else k.toNat) its.toArray)=(List.replicate k.toNat its).flatten.toArray:=by
  have f0:∀ m:Nat,List.foldl (fun x1 x2=>x1 ++ x2) #[] (List.replicate m its.toArray)=(List.replicate m its).flatten.toArray:=fun m=>by
   have:=foldl_rep its m []
   rw [List.nil_append] at this
   exact this
  rw [f0]
  cases its with
  | nil=>simp
  | cons a r'=>rw [if_neg (by simp)]
 refine wpAny_binaryOp_repeat_ref (T:="list") (U:="int") (by decide) ⟨_,e,rfl⟩ (fun s'=>typeIs_int s' k t) noFill_list_mul F.fills_int_mul F.slot_int_rmul repeat_list F.slot_int_index.lookup
  (call_meets F.slot_int_rmul (typeIs_int s k t) F.entry_int_rmul (F.args_int_rmul_2 _ _) (int___rmul___int_list k t l its.toArray n)
    ⟨e,rfl,⟨_,e,rfl⟩,call_meets F.slot_list_mul ⟨_,e,rfl⟩ F.entry_list_mul (F.args_list_mul_2 _ _) (AutoListH.list___mul___list_int_3 l its.toArray n k t hfit hcap hlong) ⟨e,?_⟩⟩)
 rw [hnew]
 exact ⟨.ref _,_,I.lnew (t':=s.toks) (r.rep k.toNat) (by rw [len_rep,Nat.mul_comm]; exact hz),rfl,q _ I.fresh⟩
end
section
variable {prog:Program} {w:World} {A:Around} {E:Value→Shared→Prop} {s:Shared}
end
section
variable {X:Cx}
end
end L2
namespace Att
open PySem PySem.W PySem.Calls PyProof.Rows
theorem ints_of_wellAll {P:Params} {h:Heap}:∀ (ns:List Int) (vs:List Value),WellAll P h vs (ns.map WData.int)→IntsAre vs ns:=by
 intro ns
 induction ns with
 | nil =>
   intro vs w
   rw [List.map_nil] at w
   cases w
   exact .nil
 | cons n ns ih =>
   intro vs w
   rw [List.map_cons] at w
   cases w with
   | cons a b =>
     cases a
     exact .cons _ _ (ih _ b)
theorem script_of {l:OpenLaw} {n:Nat} (hn:l.most=some n) {P:Params} {h:Heap} {args:List WData} {vals:List Value}
  (hpre:l.row.toRowW.claim.pre args=true) (hwl:WellAll P h vals args) :
  ∃ a vs ns,vals=[Value.ref a]∧args=[WData.list (ns.map WData.int)]∧h.get? a=some { cls:=.type "list",data:=.seq vs.toArray }∧IntsAre vs ns∧ns.length≤n:=by
 have hsh:WShape.hasAll [] args [.list .int]=true:=(pre_splitW hpre).1
 have hc:l.pre.holds [] { args:=args }=true:=(pre_splitW hpre).2
 obtain ⟨d,r,rfl,h1,h2⟩:=hasAllW_cons hsh
 obtain rfl:=hasAllW_nil h2
 obtain ⟨xs,rfl,h3⟩:=hasW_list h1
 obtain ⟨ns,rfl⟩:=items_int h3
 have hlen:ns.length≤n:=by
  unfold OpenLaw.pre at hc
  have h4:(WTm.not (.lt (.lit (.int (n:Int))) (.len (.arg 0)))).holds [] { args:=[.list (ns.map .int)] }=true:=by
   have h4:=(holds_andW hc).1
   rw [hn] at h4
   exact h4
  have h5:=condW_of h4 (w_not (w_lt w_lit (w_len_list (w_arg rfl))))
  rw [List.length_map] at h5
  refine Nat.le_of_not_lt fun q=>?_
  have q':(n:Int) < ((ns.length:Nat):Int):=by omega
  first
   | (rw [decide_eq_true q'] at h5; exact absurd h5 (by decide))
   | (simp at h5; omega)
 cases hwl with
 | cons w1 w2 =>
   cases w2
   cases w1 with
   | list ho hall=>exact ⟨_,_,ns,rfl,rfl,ho,ints_of_wellAll ns _ hall,hlen⟩
theorem post_true (l:OpenLaw) (args:List WData):l.row.toRowW.claim.post args (.bool true) args=true :=
 postW_of (r:=l.row.toRowW) (X:=(true == true))
  (show WShape.has [] (.bool true) .bool=true by first | rfl | decide | simp [WShape.has,WShape.arms,WShape.armsAll])
  (show (WTm.eq .res (.lit (.bool true))).value [] { args:=args,res:=some (.bool true),after:=args }=some (.bool (true == true)) from w_eq_bool (w_res rfl) w_lit) rfl
theorem attach_call {l:OpenLaw} {n:Nat} {q:Program} {loose:List Str} {XP:(Str→Option Value)→Heap→Prop} {YP:World→Heap→Prop} {d:DefRec}
  (hn:l.most=some n) (hdf:d.params.defaults=[])
  (call:∀ (w:World) (s₀ s₁:Shared) (mg mb:Str→Option Value) (fa:Addr) (o:Obj) (pm cd doc:Value) (a:Addr) (vs:List Value) (ns:List Int),
    Ground q loose [] XP w s₀ mg mb s₁.heap→YP w s₁.heap →
    s₁.heap.get? fa=some o→o.data = .func (docDef d.name d.params d.body d.scope pm cd doc)→s₁.heap.CodeRec cd d.name→mg d.name=some (.ref fa) →
    s₁.heap.get? a=some { cls:=.type "list",data:=.seq vs.toArray }→IntsAre vs ns→ns.length≤n→s₁.gens = #[] →
    codeAny (model l.prog w) callerA (.call (.ref fa) ⟨[.ref a],[]⟩) (fun r s'=>r = .ok (.ret (.bool true))∧OldK s₁.heap s'.heap∧s'.os=s₁.os∧AllBare s'.gens) s₁) :
  WalkO q loose XP YP l.row.toRowW d [] (fun f vs=>PySem.call f vs):=by
 intro w s₀ s₁ mg mb G Y fa o pm cd doc dV kV ho hd hcd hD hmg hg args vals as hpre hlay hrd hwl hlo
 obtain rfl:dV = .none:=Dflts.none hD hdf
 obtain rfl:kV = .none:=Dflts.noKw hD
 obtain ⟨a,vs,ns,rfl,rfl,hobj,hints,hlen⟩:=script_of hn hpre hwl
 refine enter_call (codeAny_mono (call w s₀ s₁ mg mb fa o pm cd doc a vs ns G Y ho (fd_plain hd) hcd hmg hobj hints hlen hg) fun r s' hq=>?_)
 obtain ⟨rfl,h2,h3,h4⟩:=hq
 exact ⟨.inl ⟨.bool true,.bool true,[],rfl,fun _=>rfl,.bool true,post_true l _,fun _=>⟨List.Pairwise.nil,fun _ hm=>(nomatch hm)⟩⟩,h2,h3,h4⟩
section
variable {prog:Program} {w:World} {A:Around} {E:Value→Shared→Prop} {s:Shared} {K:Frag}
end
end Att
namespace L2
open PySem PySem.Spec PyProof.Rows
theorem vals_ints:∀ {vs:List Value} {ns:List Int},IntsAre vs ns→Vals (ns.map V.int) vs
 | _,_,.nil=>.nil
 | _,_,.cons n t h=>.cons ⟨t,rfl⟩ (vals_ints h)
noncomputable def Only (H:Hp):Prop:=∀ b,H b=none∨∃ o xs,H b=some (.frz o (.lst xs))
theorem law_call {P:Program} {w:World} {K:PySem.W.Frag} {mg mb:Str→Option Value} {CX:CXT} {k:Nat} {fa a:Addr} {fd:FuncData} {x:Str} {sp:Sp} {s₁:Shared} {vs:List Value} {ns:List Int}
  (KX:K.In s₁.heap) (hns:s₁.heap.Ns mainGlobals mg) (hb:s₁.heap.Ns builtinsNs mb) (hbb:∀ x:Str,x≠"__name__"→mb x=bootBuiltins x) (hlim:s₁.heap.NoLimit) (hg:s₁.gens = #[])
  (ha:s₁.heap.get? a=some { cls:=.type "list",data:=.seq vs.toArray }) (hi:IntsAre vs ns) (hl:ns.length≤sizeLine) (hr:Room k callerA)
  (F:∀ base:Heap,K.In base→base.Ns mainGlobals mg→FnOk P w K mg base CX k fa fd [x] sp) (hbind:∀ (s:Shared) (u:Value),BindsTo s fd ⟨[u],[]⟩ [(x,u)])
  (hsp:∀ H:Hp,Only H→SqL K H a (ns.map V.int)→sp [.ref a] H (fun v _=>v = .bl true) fun _ _ _=>False)
  (hCX:∀ H e s',CX [] H s₁ (fun _ _ _=>False) e s'→False) :
  codeAny (model P w) callerA (.call (.ref fa) ⟨[.ref a],[]⟩) (fun r s'=>r = .ok (.ret (.bool true))∧OldK s₁.heap s'.heap∧s'.os=s₁.os∧AllBare s'.gens) s₁:=by
 have rv:=vals_ints hi
 have lenV:=hi.length
 have core:∀ H:Hp,Only H→SqL K H a (ns.map V.int)→HOk P w H s₁.heap→(∀ b,H b≠none→b=a)→(H a≠none→K.lookup a=none) →
   codeAny (model P w) callerA (.call (.ref fa) ⟨[.ref a],[]⟩) (fun r s'=>r = .ok (.ret (.bool true))∧OldK s₁.heap s'.heap∧s'.os=s₁.os∧AllBare s'.gens) s₁:=by
  intro H hO hS hok hA hK
  have base_of:∀ {b:Addr} {o:Obj},s₁.heap.get? b=some o→H b=none→(hidT s₁.heap H).get? b=some o:=fun e n=>hidT_get e n
  have noA:∀ {b:Addr} {o:Obj} {es:Array DictEntry} {ep:Nat},s₁.heap.get? b=some o→o.data = .dict es ep→H b=none:=fun {b o es ep} e d=>by
   cases q:H b with
   | none=>rfl
   | some u =>
     have e':b=a:=hA b (by rw [q]; simp)
     subst e'
     rw [ha] at e; cases e
     have d':Data.seq vs.toArray _=Data.dict es ep:=d
     cases d'
  have nsK:∀ {b:Addr} {m:Str→Option Value},s₁.heap.Ns b m→(hidT s₁.heap H).Ns b m:=fun {b m} ⟨o,es,ep,e,d,r⟩=>⟨o,es,ep,base_of e (noA e d),d,r⟩
  have hKb:K.In (hidT s₁.heap H):=fun b o e=>base_of (KX b o e) (by
   cases q:H b with
   | none=>rfl
   | some u =>
     have e':b=a:=hA b (by rw [q]; simp)
     subst e'
     rw [hK (by rw [q]; simp)] at e; cases e)
  have hM:Mod K mg (hidT s₁.heap H):=⟨hKb,nsK hns,⟨mb,nsK hb,hbb⟩,let ⟨mc,h1,h2⟩:=hlim; ⟨mc,nsK h1,h2⟩⟩
  have e0:Env0 P w K mg (hidT s₁.heap H) callerA [] s₁ H:=⟨rfl,hM,fun b o e=>of_hidT e,Nat.le_of_eq (hidT_size _ _),trivial,fun b hb=>absurd (show b∈([]:List Addr) from hb) (by simp),hok,.of_eq hg⟩
  refine codeAny_mono ((F _ hKb (nsK hns)).run callerA [] s₁ H ⟨[.ref a],[]⟩ [.ref a] [.ref a] _ _ hr e0 (hbind s₁ (.ref a)) (.cons rfl .nil) (hsp H hO hS)) fun r s' h=>?_
  cases r with
  | error e=>exact (hCX H e s' h).elim
  | ok fl =>
    cases fl with
    | next=>exact False.elim h
    | brk=>exact False.elim h
    | cont=>exact False.elim h
    | ret u =>
      obtain ⟨v,H',os,bare,un,hok',r',q⟩:=h
      have q':v = .bl true:=q
      subst q'
      obtain rfl:u=Value.bool true:=r'
      refine ⟨rfl,OldK.of_keep fun b o e=>?_,os,bare⟩
      cases q:H b with
      | none=>exact un.keep b o e q (by intro z; exact absurd (show b∈([]:List Addr) from z) (by simp)) (by simp)
      | some u =>
        rcases hO b with z | ⟨ob,xs,z⟩
        · rw [q] at z; cases z
        · have z2:=un.frzs b ob _ z
          obtain ⟨e1,_⟩:=hok b _ z
          obtain ⟨e2,_⟩:=hok' b _ z2
          rw [e] at e1; cases e1
          exact e2
 cases hk:K.lookup a with
 | some o =>
   have e:=KX a o hk
   rw [ha] at e
   cases e
   refine core (fun _=>none) (fun _=>.inl rfl) (.inr ⟨_,vs.toArray,_,hk,rfl,rfl,rfl,by rw [List.size_toArray,lenV]; exact hl,by simpa using rv⟩) (fun b u z=>by have z':(none:Option HO)=some u:=z; cases z') (fun b z=>absurd rfl z) fun z=>absurd rfl z
 | none =>
   refine core (fun b=>if b=a then some (.frz { cls:=.type "list",data:=.seq vs.toArray } (.lst (ns.map V.int))) else none) (fun b=>?_) (.inl (.inr ⟨{ cls:=.type "list",data:=.seq vs.toArray },if_pos rfl⟩)) (fun b u z=>?_) (fun b z=>?_) fun _=>hk
   · by_cases hb:b=a
     · exact .inr ⟨_,_,if_pos hb⟩
     · exact .inl (if_neg hb)
   · by_cases hb:b=a
     · have z':=(if_pos hb).symm.trans z
       cases z'
       subst hb
       exact ⟨ha,by rw [List.length_map]; exact hl,vs,_,rv,ha⟩
     · have z':=(if_neg hb).symm.trans z
       cases z'
   · by_cases hb:b=a
     · exact hb
     · exact absurd (if_neg hb) z
end L2
namespace L2
open PySem PySem.Spec PyProof.Rows
theorem walk_of {l:PySem.W.OpenLaw} {n k:Nat} {q:Program} {loose:List Str} {XP:(Str→Option Value)→Heap→Prop} {YP:World→Heap→Prop} {d:DefRec} {K:Params→PySem.W.Frag} {CX:World→CXT} {sp:World→Sp} {x:Str}
  (hn:l.most=some n) (hn2:n≤sizeLine) (hdf:d.params.defaults=[]) (hr:Room k callerA)
  (hY:∀ (w:World) (h:Heap),YP w h→(K w.params).In h)
  (F:∀ (w:World) (mg:Str→Option Value) (fa:Addr) (h:Heap),(K w.params).In h→h.Ns mainGlobals mg→mg d.name=some (.ref fa) →
    ∃ fd:FuncData,(∀ (s:Shared) (u:Value),BindsTo s fd ⟨[u],[]⟩ [(x,u)]) ∧
     ∀ base:Heap,(K w.params).In base→base.Ns mainGlobals mg→FnOk l.prog w (K w.params) mg base (CX w) k fa fd [x] (sp w))
  (hsp:∀ (w:World) (H:Hp) (a:Addr) (ns:List Int),ns.length≤n→Only H→SqL (K w.params) H a (ns.map V.int)→sp w [.ref a] H (fun v _=>v = .bl true) fun _ _ _=>False)
  (hCX:∀ (w:World) (H:Hp) (s:Shared) (e:Value) (s':Shared),CX w [] H s (fun _ _ _=>False) e s'→False) :
  PySem.W.WalkO q loose XP YP l.row.toRowW d [] (fun f vs=>PySem.call f vs):=by
 refine Att.attach_call hn hdf fun w s₀ s₁ mg mb fa o pm cd doc a vs ns G Y ho hd hcd hmg hobj hints hlen hg=>?_
 have KX:=hY w _ Y
 obtain ⟨fd,hb,hF⟩:=F w mg fa _ KX G.T.g hmg
 exact law_call KX G.T.g G.T.b G.T.builtins G.T.nolimit hg hobj hints (Nat.le_trans hlen hn2) hr hF hb (fun H hO hS=>hsp w H a ns hlen hO hS) fun H e s'=>hCX w H s₁ e s'
end L2
namespace L2
open PySem PySem.Spec PyProof.Rows
noncomputable def inClass (s:Stmt) (j:Nat):Stmt:=match s with
 | .ClassDef _ _ _ body _ _ _ _ _ _ _=>body.getD j (.Pass ⟨0,0,0,0⟩)
 | _=>.Pass ⟨0,0,0,0⟩
noncomputable def defArgs (s:Stmt):Arguments:=match s with
 | .FunctionDef _ a _ _ _ _ _ _ _ _=>a
 | _=>{ posonlyargs:=[],args:=[],vararg:=none,kwonlyargs:=[],kw_defaults:=[],kwarg:=none,defaults:=[] }
noncomputable def defBody (s:Stmt):List Stmt:=match s with
 | .FunctionDef _ _ b _ _ _ _ _ _ _=>b
 | _=>[]
noncomputable def defScope (s:Stmt):Scope:=match s with
 | .FunctionDef _ _ _ _ _ _ sc _ _ _=>sc
 | _=>{ kind:=.function,names:=[],isGenerator:=false,isCoroutine:=false }
noncomputable abbrev CX0:CXT:=fun _ _ _ _ _ _=>False
noncomputable abbrev E0:XK:=fun _ _ _=>False
theorem pass0 {X:Cx}:Passes CX0 X E0:=fun _ _ _ _ _ _ _ h=>h.elim
structure Fun (K:PySem.W.Frag) (x qual:Str) (st:Stmt) (f:Addr) (fd:FuncData):Prop where
 ex:∃ (oc:Value) (od:Option Addr) (kV doc pm:Value) (an:Option Addr) (cdv ct:Value) (osl:Array (Option Value)),
  fd=PySem.W.fnOf x qual (defArgs st) (defBody st) (defScope st) .none kV doc pm an cdv ct∧K.lookup f=some ⟨oc,od,.func fd,osl⟩∧PySem.W.codeIn K cdv qual=true
 kp:PySem.W.keepIn K (.ref f)=true
section
variable {P:Program} {w:World} {K:PySem.W.Frag} {mg:Str→Option Value} {base:Heap}
theorem Fun.ok {x qual:Str} {st:Stmt} {f:Addr} {fd:FuncData} {N ps:List Str} {k:Nat} {sp:Sp} (F:Fun K x qual st f fd) (S:FnScope N ps (defScope st)) (len:∀ vs H Q E,sp vs H Q E→vs.length=ps.length)
  (hbody:∀ (cdv:Value) (A:Around) (outer:List Env) (s:Shared) (H:Hp) (vs:List V) (Q:VK) (E:XK),Room k (A.deeper (envOfC qual (defScope st) s.heap.objs.size f cdv))→sp vs H Q E →
    ∃ t,PSs (cxOf CX0 P w K mg base N qual (defScope st) f cdv A outer s H E).nox (defBody st) t∧t { nx:=fun _ H'=>Q .non H',rt:=Q } (start N vs) H):FnOk P w K mg base CX0 (k+1) f fd ps sp:=by
 obtain ⟨oc,od,kV,doc,pm,an,cdv,ct,osl,rfl,lk,hcd⟩:=F.ex
 refine fn_of lk hcd S len fun A outer s H vs Q E hr hsp=>?_
 obtain ⟨t,h,q⟩:=hbody cdv A outer s H vs Q E hr hsp
 exact ⟨t,h.nox,q⟩
theorem Fun.binds {x qual:Str} {st:Stmt} {f:Addr} {fd:FuncData} {ps:List Str} (F:Fun K x qual st f fd)
  (h:∀ (kV doc pm:Value) (an:Option Addr) (cdv ct:Value) (us:List Value),us.length=ps.length→bindArgs (PySem.W.fnOf x qual (defArgs st) (defBody st) (defScope st) .none kV doc pm an cdv ct) ⟨us,[]⟩=pure (ps.zip us)):Binds K fd ps []:=by
 obtain ⟨oc,od,kV,doc,pm,an,cdv,ct,osl,rfl,lk,hcd⟩:=F.ex
 exact .all (h kV doc pm an cdv ct)
theorem fun_mk {x qual:Str} {st:Stmt} {f:Addr} {oc:Value} {od an:Option Addr} {osl:Array (Option Value)} {kV doc pm cdv ct:Value} (l:K.lookup f=some ⟨oc,od,.func (PySem.W.fnOf x qual (defArgs st) (defBody st) (defScope st) .none kV doc pm an cdv ct),osl⟩)
 (c:PySem.W.codeIn K cdv qual=true) (k:PySem.W.keepIn K (.ref f)=true):Fun K x qual st f (PySem.W.fnOf x qual (defArgs st) (defBody st) (defScope st) .none kV doc pm an cdv ct):=⟨⟨oc,od,kV,doc,pm,an,cdv,ct,osl,rfl,l,c⟩,k⟩
end
theorem small1000 {n:Nat} (h:n≤1000):n < sizeLine:=Nat.lt_of_le_of_lt h (by decide)
section
variable {X:Cx}
theorem pv (i:Nat) {x:Str} {pos:Pos} (hN:X.N[i]?=some x:=by rfl) (hv:Vis X.env.scope x:=by first | exact Or.inl rfl | exact Or.inr (Or.inl rfl) | exact Or.inr (Or.inr rfl)) (hd:(x == ("__debug__" : Str))=false:=by decide)
 (hcd:(x == ("__classdict__" : Str))=false:=by decide):PE X (.Name x pos) (tVar i):=pe_var hN hv hd hcd
end
theorem iteF {A B:Prop} (h:B):if false=true then A else B:=by
 rw [if_neg Bool.false_ne_true]
 exact h
theorem iteT {A B:Prop} (h:A):if true=true then A else B:=by
 rw [if_pos rfl]
 exact h
theorem ite2 {c A B:Prop} [Decidable c] (h1:c→A) (h2:¬ c→B):if c then A else B:=by
 by_cases h:c
 · rw [if_pos h]
   exact h1 h
 · rw [if_neg h]
   exact h2 h
noncomputable def Same (H H':Hp):Prop:=∀ b o,H b=some o→H' b=some o
theorem Same.refl (H:Hp):Same H H:=fun _ _ h=>h
theorem Same.trans {H H1 H2:Hp} (a:Same H H1) (b:Same H1 H2):Same H H2:=fun c o h=>b c o (a c o h)
end L2
namespace L2
open PySem PySem.Spec PyProof.Rows
section
theorem forIn_closed {env:Env} {f:Str×NameKind→List (Str×Addr)→Sem (ForInStep (List (Str×Addr)))}:∀ (l:List (Str×NameKind)) (cs:List (Str×Addr)),
  (∀ p∈l,∀ r,(p.2 = .free→∃ c,env.cells.lookup p.1=some c∧f p r=pure (.yield ((p.1,c) :: r)))∧(p.2≠.free→f p r=pure (.yield r))) →
  ∃ cl,forIn l cs f=pure cl∧(∀ y c,cl.lookup y=some c→cs.lookup y=some c∨env.cells.lookup y=some c)∧(∀ y,(cs.lookup y).isSome=true→(cl.lookup y).isSome=true) ∧
   ∀ p∈l,p.2 = .free→(cl.lookup p.1).isSome=true
 | [],cs,_=>⟨cs,by rw [List.forIn_nil],fun _ _ h=>.inl h,fun _ h=>h,fun _ h=>nomatch h⟩
 | p :: l,cs,hf=>by
   have hr:∀ q∈l,∀ r,(q.2 = .free→∃ c,env.cells.lookup q.1=some c∧f q r=pure (.yield ((q.1,c) :: r)))∧(q.2≠.free→f q r=pure (.yield r)):=fun q hq r=>hf q (List.mem_cons_of_mem _ hq) r
   by_cases hp:p.2 = .free
   · obtain ⟨c,hc,e⟩:=(hf p List.mem_cons_self cs).1 hp
     obtain ⟨cl,h1,h2,h3,h4⟩:=forIn_closed l ((p.1,c) :: cs) hr
     refine ⟨cl,?_,fun y d h=>?_,fun y h=>h3 y ?_,fun q hq hqf=>?_⟩
     · rw [List.forIn_cons,e]
       exact h1
     · rcases h2 y d h with z | z
       · rw [List.lookup_cons] at z
         cases hy:y == p.1 with
         | true =>
           rw [hy] at z
           have ey:y=p.1:=eq_of_beq hy
           cases z
           rw [ey]
           exact .inr hc
         | false=>rw [hy] at z; exact .inl z
       · exact .inr z
     · rw [List.lookup_cons]
       cases hy:y == p.1 with
       | true=>rfl
       | false=>exact h
     · rcases List.mem_cons.mp hq with z | z
       · subst z
         refine h3 _ ?_
         rw [List.lookup_cons,beq_self_eq_true]
         rfl
       · exact h4 q z hqf
   · have e:=(hf p List.mem_cons_self cs).2 hp
     obtain ⟨cl,h1,h2,h3,h4⟩:=forIn_closed l cs hr
     refine ⟨cl,?_,h2,h3,fun q hq hqf=>?_⟩
     · rw [List.forIn_cons,e]
       exact h1
     · rcases List.mem_cons.mp hq with z | z
       · subst z; exact absurd hqf hp
       · exact h4 q z hqf
theorem closureFor_pure {scope:Scope} {env:Env} (h:∀ p∈scope.names,p.2 = .free→∃ c,env.cells.lookup p.1=some c) :
  ∃ cl,closureFor scope env=pure cl∧(∀ y c,cl.lookup y=some c→env.cells.lookup y=some c)∧∀ p∈scope.names,p.2 = .free→∃ c,cl.lookup p.1=some c:=by
 have key:∃ cl,closureFor scope env=pure cl∧(∀ y c,cl.lookup y=some c→([]:List (Str×Addr)).lookup y=some c∨env.cells.lookup y=some c)∧(∀ y,(([]:List (Str×Addr)).lookup y).isSome=true→(cl.lookup y).isSome=true) ∧
   ∀ p∈scope.names,p.2 = .free→(cl.lookup p.1).isSome=true:=by
  simp only [closureFor]
  have go:=@forIn_closed env (fun x r=>if x.2 == NameKind.free then (do let c ← cellOf env x.1; pure (ForInStep.yield ((x.1,c) :: r))) else pure (ForInStep.yield r)) scope.names [] ?_
  · obtain ⟨cl,h1,h2⟩:=go
    refine ⟨cl,?_,h2⟩
    first
     | (show (forIn scope.names [] _ >>= fun cs=>pure cs)=_; rw [h1]; rfl)
     | (rw [h1]; rfl)
     | exact congrArg (· >>= pure) h1
  · intro p hp r
    refine ⟨fun hf=>?_,fun hf=>?_⟩
    · obtain ⟨c,hc⟩:=h p hp hf
      refine ⟨c,hc,?_⟩
      have e1:(p.2 == NameKind.free)=true:=by rw [hf]; rfl
      have e2:cellOf env p.1=pure c:=by unfold cellOf; rw [hc]
      rw [e1,if_pos rfl,e2]
      rfl
    · have e1:(p.2 == NameKind.free)=false:=by simpa using hf
      rw [e1,if_neg (by decide)]
 obtain ⟨cl,h1,h2,h3,h4⟩:=key
 refine ⟨cl,h1,fun y c e=>?_,fun p hp hf=>Option.isSome_iff_exists.mp (h4 p hp hf)⟩
 rcases h2 y c e with z | z
 · rw [List.lookup_nil] at z; cases z
 · exact z
theorem relabel_look {scope:Scope} {env:Env} (y:Str):(relabel scope env).names.lookup y =
  (scope.names.lookup y).map fun k=>if (k == .free && env.scope.kind == .function && env.kindOf y == some .cell)=true then .cell else k:=by
 have key:∀ l:List (Str×NameKind),(l.map fun (n,k)=>if (k == NameKind.free && env.scope.kind == .function && env.kindOf n == some .cell) then (n,NameKind.cell) else (n,k)).lookup y =
   (l.lookup y).map fun k=>if (k == .free && env.scope.kind == .function && env.kindOf y == some .cell)=true then .cell else k:=by
  intro l
  induction l with
  | nil=>rfl
  | cons p l ih =>
    obtain ⟨n,k⟩:=p
    rw [List.map_cons]
    show List.lookup y ((if (k == NameKind.free && env.scope.kind == .function && env.kindOf n == some .cell)=true then (n,NameKind.cell) else (n,k)) :: _)=_
    by_cases hc:(k == NameKind.free && env.scope.kind == .function && env.kindOf n == some .cell)=true
    · rw [if_pos hc,List.lookup_cons,List.lookup_cons]
      cases hy:y == n with
      | true =>
        have ey:y=n:=eq_of_beq hy
        subst ey
        show some NameKind.cell=some (if _ then _ else _)
        rw [if_pos hc]
      | false=>exact ih
    · rw [if_neg hc,List.lookup_cons,List.lookup_cons]
      cases hy:y == n with
      | true =>
        have ey:y=n:=eq_of_beq hy
        subst ey
        show some k=some (if _ then _ else _)
        rw [if_neg hc]
      | false=>exact ih
 exact key scope.names
end
noncomputable def compOk (N ts:List Str) (out sc:Scope):Bool :=
 (sc.kind == .function) && sc.names.all (fun p=>(p.2 != .cell) && (p.2 != .free || out.names.lookup p.1 == some .cell || out.names.lookup p.1 == some .free) && (p.2 != .local || sc.names.lookup p.1 == some .local))
   && N.all (fun y=>sc.names.lookup y != some .local) && ts.all (fun y=>sc.names.lookup y == some .local) && decide ((N ++ ts).Nodup)
structure CompSc (N ts:List Str) (out sc:Scope):Prop where
 kind:sc.kind = .function
 nocell:∀ p∈sc.names,p.2≠.cell
 fr:∀ p∈sc.names,p.2 = .free→out.names.lookup p.1=some .cell∨out.names.lookup p.1=some .free
 names:∀ p∈sc.names,p.2 = .local→sc.names.lookup p.1=some .local
 own:∀ y∈N,sc.names.lookup y≠some .local
 tgt:∀ y∈ts,sc.names.lookup y=some .local
 nd:(N ++ ts).Nodup
theorem compSc_of {N ts:List Str} {out sc:Scope} (h:compOk N ts out sc=true):CompSc N ts out sc:=by
 unfold compOk at h
 rw [Bool.and_eq_true,Bool.and_eq_true,Bool.and_eq_true,Bool.and_eq_true] at h
 obtain ⟨⟨⟨⟨h1,h2⟩,h3⟩,h4⟩,h5⟩:=h
 rw [List.all_eq_true] at h2 h3 h4
 refine ⟨eq_of_beq h1,fun p hp=>?_,fun p hp hf=>?_,fun p hp hl=>?_,fun y hy=>?_,fun y hy=>?_,of_decide_eq_true h5⟩
 · have:=h2 p hp
   rw [Bool.and_eq_true,Bool.and_eq_true] at this
   simpa using this.1.1
 · have:=h2 p hp
   rw [Bool.and_eq_true,Bool.and_eq_true] at this
   have q:=this.1.2
   rw [hf] at q
   simpa using q
 · have:=h2 p hp
   rw [Bool.and_eq_true,Bool.and_eq_true] at this
   have q:=this.2
   rw [hl] at q
   simpa using q
 · simpa using h3 y hy
 · simpa using h4 y hy
noncomputable def compCx (X:Cx) (ts:List Str) (sc:Scope) (cl:List (Str×Addr)) (C:Addr) (fp:List Addr) (s:Shared) (H:Hp):Cx where
 prog:=X.prog
 w:=X.w
 K:=X.K
 mg:=X.mg
 base:=X.base
 A:=X.A
 N:=X.N ++ ts
 s₀:=s
 H₀:=H
 env:=compEnvC sc cl C X.env
 outer:=X.stack
 stack:=X.stack
 ex:=fp
 fn:=fun _=>false
 calm:=X.calm
 pn:=[]
 xe:=fun _ _=>False
section
variable {X:Cx} {pins:List (Addr×Obj)} {σ:St} {H:Hp} {s:Shared} {ts:List Str} {sc:Scope} {cl:List (Str×Addr)} {C D:Addr} {fp:List Addr}
theorem comp_kind (hS:CompSc X.N ts X.env.scope sc) {y:Str} (h:Vis (relabel sc X.env) y):sc.names.lookup y=some .local∨(sc.names.lookup y=some .free∧((relabel sc X.env).names.lookup y=some .cell∨(relabel sc X.env).names.lookup y=some .free)):=by
 have e:=relabel_look (scope:=sc) (env:=X.env) y
 cases hk:sc.names.lookup y with
 | none =>
   rw [hk] at e
   have e':(relabel sc X.env).names.lookup y=none:=e
   rcases h with h | h | h <;> rw [e'] at h <;> cases h
 | some k =>
   have hm:(y,k)∈sc.names:=PySem.mem_of_lookup hk
   rw [hk] at e
   cases k with
   | «local»=>exact .inl rfl
   | cell=>exact absurd rfl (hS.nocell _ hm)
   | free =>
     refine .inr ⟨rfl,?_⟩
     rw [e,Option.map_some]
     by_cases hc:(NameKind.free == .free && X.env.scope.kind == .function && X.env.kindOf y == some .cell)=true
     · rw [if_pos hc]; exact .inl rfl
     · rw [if_neg hc]; exact .inr rfl
   | globalExplicit =>
     have e':(relabel sc X.env).names.lookup y=some .globalExplicit:=e
     rcases h with h | h | h <;> rw [e'] at h <;> cases h
   | globalImplicit =>
     have e':(relabel sc X.env).names.lookup y=some .globalImplicit:=e
     rcases h with h | h | h <;> rw [e'] at h <;> cases h
theorem comp_fp (I:Inv X pins σ H s) (hf:∀ b∈fp,FpOk X pins H b):∀ b∈fp,b∉frs X.stack:=fun b hb z=>by
 obtain ⟨_,f1,f2,_⟩:=hf b hb
 rcases List.mem_cons.mp (I.stkSub b z) with e | e
 · exact f1 e
 · exact f2 e
theorem comp_in (I:Inv X pins σ H s) (hf:∀ b∈fp,FpOk X pins H b) (hfo:∀ b∈fp,∃ o,s.heap.get? b=some o) (hS:CompSc X.N ts X.env.scope sc)
  (c1:∀ y c,cl.lookup y=some c→X.env.cells.lookup y=some c) (c2:∀ p∈sc.names,p.2 = .free→∃ c,cl.lookup p.1=some c)
  (hC:s.heap.objs.size≤C) (hD:s.heap.objs.size≤D) (hDC:D≠C) {h1:Heap} {m:Str→Option Value} {n:Nat} {t:Nat} (k:∀ b o,s.heap.get? b=some o→h1.get? b=some o) (hn:h1.Ns C m)
  (hd:h1.get? D=some { cls:=.type "list",data:=.seq ([]:List Value).toArray n }) :
  Inv (compCx X ts sc cl C fp s H) [] (σ ++ ts.map fun _=>none) (upd H D (.lst [])) { s with heap:=h1,toks:=t }:=by
 have sz:=I.sz
 have fpne:∀ b∈fp,b < s.heap.objs.size:=fun b hb=>by obtain ⟨o,e⟩:=hfo b hb; exact Heap.lt_size e
 have cne:∀ y c,cl.lookup y=some c→c < s.heap.objs.size:=fun y c e=>by obtain ⟨v,q⟩:=I.cell y c (c1 y c e); exact q.lt
 have ok:(compCx X ts sc cl C fp s H).Ok:=by
  refine ⟨I.ok.mod,hS.kind,I.ok.glob,I.ok.blt,hC,fun x y c e1 e2=>I.ok.inj x y c (c1 x c e1) (c1 y c e2),fun x hx=>?_,fun x c hx=>absurd hx (by simp [compCx]),I.ok.hd,I.ok.frames,.inl rfl,fun b hb=>?_,fun b o e=>I.bs b o e,
   Nat.le_trans I.ok.bsz sz,fun b o e hb=>?_,comp_fp I hf,I.stack,fun b hb=>I.stkFree b hb⟩
  · have hv:Vis (relabel sc X.env) x:=by
     rcases hx with hx | hx
     · exact .inr (.inl hx)
     · exact .inr (.inr hx)
    rcases comp_kind hS hv with z | ⟨z,_⟩
    · have e:=relabel_look (scope:=sc) (env:=X.env) x
      rw [z] at e
      have e':(relabel sc X.env).names.lookup x=some .local:=e
      have hx':(relabel sc X.env).names.lookup x=some .cell∨(relabel sc X.env).names.lookup x=some .free:=hx
      rw [e'] at hx'
      rcases hx' with q | q <;> cases q
    · exact c2 _ (PySem.mem_of_lookup z) rfl
  · exact ⟨fun e=>absurd (Nat.lt_of_lt_of_le (fpne b hb) hC) (by have e':b=C:=e; rw [e']; exact Nat.lt_irrefl _),fun x c e z=>(hf b hb).2.2.2.2.1 x c (c1 x c e) z⟩
  · rcases (hf b hb).2.2.2.1 with z | z
    · exact I.ok.noex b o e z
    · exact absurd (Nat.lt_of_lt_of_le (Heap.lt_size e) (Nat.le_trans I.ok.bsz z)) (Nat.lt_irrefl _)
 have hnD:H D=none:=I.hok.fresh hD
 refine ⟨ok,rfl,I.bare,Un.laid k hD hnD,⟨m,hn,fun i x v e1 e2 e3=>?_⟩,fun x c e=>?_,?_,fun x c e=>?_,fun p hp=>absurd (show p∈([]:List (Addr×Obj)) from hp) (by simp),I.hok.laid k hD ⟨Nat.zero_le _,[],n,.nil,hd⟩,?_⟩
 · have hi:i < σ.length:=by
    by_cases hi:i < σ.length
    · exact hi
    · rw [List.getElem?_append_right (by omega),List.getElem?_map] at e2
      cases q:ts[i - σ.length]? with
      | none=>rw [q] at e2; cases e2
      | some a=>rw [q] at e2; cases e2
   have e2':σ[i]?=some (some v):=by rw [List.getElem?_append_left hi] at e2; exact e2
   have e1':X.N[i]?=some x:=by
    have e1'':(X.N ++ ts)[i]?=some x:=e1
    rw [List.getElem?_append_left (by rw [← I.len]; exact hi)] at e1''
    exact e1''
   rcases comp_kind hS e3 with z | ⟨z,zr⟩
   · exact absurd z (hS.own x (List.mem_of_getElem? e1'))
   · have hm:=PySem.mem_of_lookup z
     have ho:=hS.fr _ hm rfl
     obtain ⟨m0,_,hl⟩:=I.loc
     obtain ⟨u,r,l⟩:=hl i x v e1' e2' (.inr ho)
     obtain ⟨c',hc'⟩:=c2 _ hm rfl
     rcases l with ⟨l,_⟩ | ⟨_,c,hc,z2⟩
     · have l':X.env.scope.names.lookup x=some .local:=l
       rw [l'] at ho
       rcases ho with q | q <;> cases q
     · have ec:=c1 x c' hc'
       rw [hc] at ec
       cases ec
       exact ⟨u,r,.inr ⟨zr,_,hc',z2.keeps k⟩⟩
 · obtain ⟨v,z⟩:=I.cell x c (c1 x c e)
   exact ⟨v,z.keeps k⟩
 · show upd H D (.lst []) C=none
   rw [upd_ne (Ne.symm hDC)]
   exact I.hok.fresh hC
 · show upd H D (.lst []) c=none
   rw [upd_ne (Nat.ne_of_lt (Nat.lt_of_lt_of_le (cne x c e) hD))]
   exact I.freeC x c (c1 x c e)
 · show (σ ++ ts.map fun _=>none).length=(X.N ++ ts).length
   rw [List.length_append,List.length_append,List.length_map,I.len]
theorem comp_out (I:Inv X pins σ H s) (hf:∀ b∈fp,FpOk X pins H b) {pins':List (Addr×Obj)} {σ':St} {H':Hp} {s':Shared} (J:Inv (compCx X ts sc cl C fp s H) pins' σ' H' s'):Inv X pins σ H' s' :=
 I.call' J.os J.base J.hok J.bare fun b hb=>by
  obtain ⟨_,f1,_,f3,f4,f5⟩:=hf b hb
  exact ⟨f3,f1,f4,f5⟩
end
end L2
namespace L2
open PySem PySem.Spec PyProof.Rows
section
variable {prog:Program} {w:World} {A:Around} {R:Result→Shared→Prop} {s:Shared}
theorem codeAny_compLoop_go {elt target iter:Expr} {ifs:List Expr} {scope:Scope} {pos:Pos} {it acc:Value} {env:Env} (I:Nat→Shared→Prop)
  (turn:∀ n s,I n s→wpAny (model prog w) A (pyNext it) (fun r s₁=>match r with
    | none=>R (.ok .next) s₁
    | some v=>wpAny (model prog w) A (letOwnedTupleGo target it v) (fun _ s₁'=>wpAny (model prog w) A (assign target env v) (fun _ s₂ =>
       wpAny (model prog w) A (forIn ifs true fun c r=>if r=true then do let ok ← isTrue c env (eval c env); pure (ForInStep.yield ok) else pure (ForInStep.yield r)) (fun ok s₃ =>
        if ok=true then wpAny (model prog w) A (eval elt env) (fun x s₄ =>
         wpAny (model prog w) A (call (.builtin "list.append") [acc,x]) (fun _ s₅=>∃ m,m < n∧I m s₅) (notedBy (model prog w) A env fun e s'=>R (.error e) s') s₄) (notedBy (model prog w) A env fun e s'=>R (.error e) s') s₃
        else ∃ m,m < n∧I m s₃) (notedBy (model prog w) A env fun e s'=>R (.error e) s') s₂) (notedBy (model prog w) A env fun e s'=>R (.error e) s') s₁')
       (notedBy (model prog w) A env fun e s'=>R (.error e) s') s₁) (notedBy (model prog w) A env fun e s'=>R (.error e) s') s)
  (n:Nat) (h:I n s):codeAny (model prog w) A (.compLoop (.ListComp elt [⟨target,iter,ifs,0⟩] scope pos) 0 it acc env) R s:=by
 refine codeAny_loop rfl I (fun n s hI=>?_) n h
 show wpAny _ A ((compTurn (.ListComp elt [⟨target,iter,ifs,0⟩] scope pos) 0 it acc env).onRaise (fun x=>do noteFrame x env; theTreesLotGoes x)) _ _ s
 refine wpAny_noted ?_
 rw [compTurn_list]
 refine wpAny_bind (wpAny_standAt (wpAny_bind (wpAny_mono (turn n s hI) (fun r s₁ h₁=>?_) fun _ _ h'=>h')))
 cases r with
 | none=>exact wpAny_pure h₁
 | some v =>
   refine wpAny_bind (wpAny_mono h₁ (fun _ s₁' h₁'=>?_) fun _ _ h'=>h')
   refine wpAny_bind (wpAny_mono h₁' (fun _ s₂ h₂=>wpAny_bind (wpAny_mono h₂ (fun ok s₃ h₃=>?_) fun _ _ h'=>h')) fun _ _ h'=>h')
   cases ok with
   | false=>exact wpAny_pure ⟨rfl,h₃⟩
   | true =>
     exact wpAny_bind (wpAny_bind (wpAny_mono h₃ (fun x s₄ h₄=>wpAny_bind (wpAny_mono h₄ (fun _ s₅ h₅=>wpAny_pure (wpAny_pure ⟨rfl,h₅⟩)) fun _ _ h'=>h')) fun _ _ h'=>h'))
end
noncomputable def PTs (X:Cx) (ifs:List Expr) (t:TT):Prop :=
 ∀ (pins:List (Addr×Obj)) (s:Shared) (σ:St) (H:Hp) (Q:Bool→Hp→Prop),Inv X pins σ H s→t σ H Q →
  wpAny (model X.prog X.w) X.A (forIn ifs true fun c r=>if r=true then do let ok ← isTrue c X.env (eval c X.env); pure (ForInStep.yield ok) else pure (ForInStep.yield r)) (TP X pins σ Q) X.xe s
noncomputable def tYes:TT:=fun _ H Q=>Q true H
theorem pts_nil {X:Cx}:PTs X [] tYes:=fun _ _ _ H _ I h=>wpAny_tests_nil ⟨H,I,h⟩
theorem pts_one {X:Cx} {c:Expr} {t:TT} (h:PT X c t):PTs X [c] t:=fun pins s σ H Q I hw=>wpAny_tests_one (h pins s σ H Q I hw)
noncomputable def CompW (J:It) (g:TG) (tt:TT) (te:TE) (n:Nat) (σ:St) (D:Addr) (Q:Hp→Prop) (H1:Hp):Prop :=
 ∃ W:Nat→Nat→List V→Hp→Prop,(∃ m,W 0 m [] (upd H1 D (.lst [])))∧∀ i m acc H2,W i m acc H2→H2 D=some (.lst acc) ∧
  ((J.stop i H2∧Q H2)∨(J.go i H2∧acc.length < sizeLine∧∀ x H3,J.yld i H2 x H3→g x (σ ++ List.replicate n none) H3 fun σ4 H4=>(σ4.length=σ.length+n∧∀ (i:Nat) v,σ[i]?=some (some v)→σ4[i]?=some (some v)) ∧
    tt σ4 H4 fun b H5=>if b=true then te σ4 H5 fun y H6=>H6 D=some (.lst acc)∧∃ m',m' < m∧W (i+1) m' (acc ++ [y]) (upd H6 D (.lst (acc ++ [y]))) else ∃ m',m' < m∧W (i+1) m' acc H5))
section
variable {X:Cx} {pins:List (Addr×Obj)} {σ:St} {H:Hp} {s:Shared} {ts:List Str} {sc:Scope} {cl:List (Str×Addr)} {fp:List Addr}
theorem weak_none {Y:Cx} {pl:List (Addr×Obj)} {σ4:St} {H':Hp} {s':Shared} {n:Nat} (I:Inv Y pl σ4 H' s') (hl:σ4.length=σ.length+n) (hs:∀ (i:Nat) v,σ[i]?=some (some v)→σ4[i]?=some (some v)) :
  Inv Y pl (σ ++ List.replicate n none) H' s':=by
 refine I.weak (by rw [List.length_append,List.length_replicate,hl]) fun i v e=>?_
 by_cases hi:i < σ.length
 · rw [List.getElem?_append_left hi] at e
   exact hs i v e
 · rw [List.getElem?_append_right (by omega),List.getElem?_replicate] at e
   split at e <;> cases e
theorem comp_run {elt iter tg:Expr} {ifs:List Expr} {pos:Pos} {it:Addr} {tn:Nat→Heap→Prop} {J:It} {g:TG} {tt:TT} {te:TE} {Q:Hp→Prop} {RR:Value→Addr→Result→Shared→Prop} {E:Value→Shared→Prop}
  (hc:X.calm=true) (I:Inv X pins σ H s) (T:Turn X.prog X.w X.K tg J fp it tn) (st:tn 0 s.heap) (hf:∀ b∈fp,FpOk X pins H b) (hS:CompSc X.N ts X.env.scope sc)
  (c1:∀ y c,cl.lookup y=some c→X.env.cells.lookup y=some c) (c2:∀ p∈sc.names,p.2 = .free→∃ c,cl.lookup p.1=some c)
  (hg:∀ C,PG (compCx X ts sc cl C fp s H) tg g) (ht:∀ C,PTs (compCx X ts sc cl C fp s H) ifs tt) (he:∀ C,PE (compCx X ts sc cl C fp s H) elt te)
  (hw:CompW J g tt te ts.length σ s.heap.objs.size Q H)
  (fin:∀ (C:Addr) (H':Hp) (s':Shared) (σ':St),s.heap.objs.size≤C→Inv (compCx X ts sc cl C fp s H) [] σ' H' s'→Q H'→RR (.ref s.heap.objs.size) C (.ok .next) s') :
  wpAny (model X.prog X.w) X.A (newList []) (fun acc s₃=>wpAny (model X.prog X.w) X.A (newFunctionEnv sc X.env.globals cl [] X.env.qual none .none (some X.env)) (fun cenv s₄ =>
   codeAny (model X.prog X.w) X.A (.compStart (.ListComp elt [⟨tg,iter,ifs,0⟩] sc pos) 0 (.ref it) acc { cenv with scope:=relabel sc X.env }) (RR acc cenv.locals) s₄) E s₃) E s:=by
 obtain ⟨W,⟨m0,w0⟩,turn⟩:=hw
 have obj0:=T.obj 0 _ st
 have hfo:∀ b∈fp,∃ o,s.heap.get? b=some o:=fun b hb=>let ⟨o,e,_⟩:=obj0 b hb; ⟨o,e⟩
 refine wpAny_newObj_type (wpAny_newFunctionEnv hS.nocell (by intro y hy; simp at hy) (fun h₁ hns₁ hsb₁=>?_) hS.kind)
 dsimp only at hns₁ hsb₁ ⊢
 generalize hH2:s.heap.push { cls:=.type "list",dict:=none,data:=.seq ([]:List Value).toArray }=H2 at hns₁ hsb₁ ⊢
 have hC:H2.objs.size=s.heap.objs.size+1:=by rw [← hH2,Heap.size_push]
 have hDC:s.heap.objs.size≠H2.objs.size:=by rw [hC]; exact Nat.ne_of_lt (Nat.lt_succ_self _)
 have hCle:s.heap.objs.size≤H2.objs.size:=by rw [hC]; exact Nat.le_succ _
 have below:∀ b,b < s.heap.objs.size→b≠H2.objs.size∧b≠s.heap.objs.size:=fun b hb=>⟨by rw [hC]; exact Nat.ne_of_lt (Nat.lt_succ_of_lt hb),Nat.ne_of_lt hb⟩
 have old:∀ b o,s.heap.get? b=some o→h₁.get? b=some o:=fun b o e=>hsb₁.extBut b o (below b (Heap.lt_size e)).1 (Heap.get?_push_of_some _ (hH2▸Heap.get?_push_of_some _ e))
 have hacc:h₁.get? s.heap.objs.size=some { cls:=.type "list",data:=.seq ([]:List Value).toArray }:=hsb₁.extBut _ _ hDC (Heap.get?_push_of_some _ (hH2▸Heap.get?_push_size _ rfl))
 have hst₁:tn 0 h₁:=T.keep _ _ _ st fun b hb o e=>old b o e
 have fresh:H s.heap.objs.size=none:=I.hok.fresh (Nat.le_refl _)
 have fps:∀ {H':Hp},(∀ b∈fp,H' b=none)→∀ b∈fp,FpOk (compCx X ts sc cl H2.objs.size fp s H) [] H' b:=fun {H'} hn b hb=>by
  obtain ⟨o,e⟩:=hfo b hb
  refine ⟨hn b hb,fun z=>?_,comp_fp I hf b hb,.inl hb,fun x c e z=>(hf b hb).2.2.2.2.1 x c (c1 x c e) z,fun p hp=>absurd (show p∈([]:List (Addr×Obj)) from hp) (by simp)⟩
  have z':b=H2.objs.size:=z
  exact (below b (Heap.lt_size e)).1 z'
 have fp0:∀ b∈fp,(upd H s.heap.objs.size (.lst [])) b=none:=fun b hb=>by
  obtain ⟨o,e⟩:=hfo b hb
  rw [upd_ne (Nat.ne_of_lt (Heap.lt_size e))]
  exact (hf b hb).1
 have eN:(ts.map fun _=>(none:Option V))=List.replicate ts.length none:=List.map_const'
 have loop:∀ s₃:Shared,s₃={ s with heap:=h₁,toks:=s.toks+([]:List (Str×Value)).length } →
   codeAny (model X.prog X.w) X.A (.compLoop (.ListComp elt [⟨tg,iter,ifs,0⟩] sc pos) 0 (.ref it) (.ref s.heap.objs.size) (compEnvC sc cl H2.objs.size X.env)) (RR (.ref s.heap.objs.size) H2.objs.size) s₃:=by
  rintro s₃ rfl
  have J0:=comp_in (ts:=ts) (t:=s.toks+([]:List (Str×Value)).length) I hf hfo hS c1 c2 hCle (Nat.le_refl _) hDC old hns₁ hacc
  rw [eN] at J0
  refine codeAny_compLoop_go (fun n s'=>∃ i acc H',Inv (compCx X ts sc cl H2.objs.size fp s H) [] (σ ++ List.replicate ts.length none) H' s'∧tn i s'.heap∧(∀ b∈fp,H' b=none)∧W i n acc H') ?_ m0 ⟨0,[],_,J0,hst₁,fp0,w0⟩
  rintro n s3 ⟨i,acc,H3,J3,st3,fr3,w3⟩
  obtain ⟨hD3,alt⟩:=turn i n acc H3 w3
  rcases alt with ⟨stop,q⟩ | ⟨go,hz,step⟩
  · refine thn (T.done (compCx X ts sc cl H2.objs.size fp s H) rfl rfl rfl hc i [] s3 _ H3 _ J3 (fps fr3) st3 stop) fun r s4 ⟨hr,J4⟩=>?_
    subst hr
    exact fin _ H3 s4 _ hCle J4 q
  · refine thn (T.item (compCx X ts sc cl H2.objs.size fp s H) rfl rfl rfl hc i [] s3 _ H3 _ J3 (fps fr3) st3 go) fun r s4 ⟨u,hr,h4⟩=>?_
    subst hr
    refine thn h4 fun _ s5 ⟨x,H5,J5,r5,y5,st5,fr5⟩=>?_
    have J5':=J5.pinned (fps fr5) (T.obj _ _ st5)
    have again:∀ {σ7:St} {H7:Hp} {s7:Shared},Inv (compCx X ts sc cl H2.objs.size fp s H) ([] ++ pinsAt fp s5.heap) σ7 H7 s7→(σ7.length=σ.length+ts.length∧∀ (i:Nat) v,σ[i]?=some (some v)→σ7[i]?=some (some v))→∀ acc' m',W (i+1) m' acc' H7→m' < n →
      ∃ m,m < n∧∃ i acc H',Inv (compCx X ts sc cl H2.objs.size fp s H) [] (σ ++ List.replicate ts.length none) H' s7∧tn i s7.heap∧(∀ b∈fp,H' b=none)∧W i m acc H':=fun {σ7 H7 s7} I7 hσ acc' m' w7 hm=>by
     refine ⟨m',hm,i+1,acc',H7,weak_none I7.unpinned hσ.1 hσ.2,T.keep _ _ _ st5 fun b hb o e=>(I7.pin (b,o) (List.mem_append_right _ (List.mem_append_right _ (mem_pinsAt hb e)))).1,fun b hb=>?_,w7⟩
     obtain ⟨o,e,d⟩:=T.obj _ _ st5 b hb
     exact (I7.pin (b,o) (List.mem_append_right _ (List.mem_append_right _ (mem_pinsAt hb e)))).2.1
    refine wpAny_mono (hg H2.objs.size _ s5 _ H5 x u _ J5' r5 (step x H5 y5)) (fun _ s6 ⟨σ6,H6,J6,hσ,q6⟩=>?_) fun _ _ z=>False.elim z
    refine wpAny_mono (ht H2.objs.size _ s6 σ6 H6 _ J6 q6) (fun b s7 ⟨H7,J7,q7⟩=>?_) fun _ _ z=>False.elim z
    cases b with
    | false =>
      obtain ⟨m',hm,w7⟩:=q7
      exact again J7 hσ acc m' w7 hm
    | true =>
      show wpAny _ _ _ _ _ _
      refine wpAny_mono (he H2.objs.size _ s7 σ6 H7 _ J7 q7) (fun y s8 ⟨yv,H8,J8,ry,hD8,m',hm,w8⟩=>?_) fun _ _ z=>False.elim z
      refine wpAny_mono (mt_append (X:=compCx X ts sc cl H2.objs.size fp s H) _ s8 σ6 H8 (.ref s.heap.objs.size) [yv] (.ref s.heap.objs.size) [y] (fun v H9=>v = .non∧H9=upd H8 s.heap.objs.size (.lst (acc ++ [yv]))) J8 rfl (.cons ry .nil) ⟨_,acc,yv,rfl,rfl,hD8,hz,rfl,rfl⟩) (fun v9 s9 ⟨v,H9,J9,_,_,e9⟩=>?_) fun _ _ z=>False.elim z
      subst e9
      exact again J9 hσ (acc ++ [yv]) m' w8 hm
 exact codeAny_compStart_list (loop _ rfl) (T.self _ 0 _ _ _ hst₁ (loop _ rfl))
noncomputable def tComp (n:Nat) (wi:TI) (g:TG) (tt:TT) (te:TE):TE:=fun σ H Q=>wi σ H fun J H1=>∀ D,H1 D=none→CompW J g tt te n σ D (Q (.ref D)) H1
theorem comp_has (I:Inv X pins σ H s) (hS:CompSc X.N ts X.env.scope sc):∀ p∈sc.names,p.2 = .free→∃ c,X.env.cells.lookup p.1=some c:=fun p hp hf=>by
 rcases hS.fr p hp hf with z | z
 · exact I.ok.has p.1 (.inl z)
 · exact I.ok.has p.1 (.inr z)
theorem pe_comp {elt iter tg:Expr} {ifs:List Expr} {pos:Pos} {wi:TI} {g:TG} {tt:TT} {te:TE} (hc:X.calm=true) (hS:compOk X.N ts X.env.scope sc=true) (hi:PI X tg iter wi)
  (hg:∀ cl C fp s H,PG (compCx X ts sc cl C fp s H) tg g) (ht:∀ cl C fp s H,PTs (compCx X ts sc cl C fp s H) ifs tt) (he:∀ cl C fp s H,PE (compCx X ts sc cl C fp s H) elt te)
  (hs:∀ x,foldedSetIterable iter X.env x=pure x:=by intro _; rfl):PE X (.ListComp elt [⟨tg,iter,ifs,0⟩] sc pos) (tComp ts.length wi g tt te):=by
 intro pins s σ H Q I h
 have S:=compSc_of hS
 obtain ⟨cl,hcl,c1,c2⟩:=closureFor_pure (comp_has I S)
 rw [eval_ListComp]
 refine wpAny_comprehension_free (use:=none) rfl hs hcl S.kind S.names ?_
 refine thn (hi pins s σ H _ I h) fun v s1 h1=>thn h1 fun itv s2 h2=>?_
 obtain ⟨it,fp,tn,J,H2,e,I2,T,st2,f2,q2⟩:=h2
 subst e
 refine comp_run (E:=X.xe) (RR:=fun acc C=>compPost (model X.prog X.w) X.A X.xe none (EP X pins σ Q) acc C) hc I2 T st2 f2 S c1 c2 (fun C=>hg cl C fp s2 H2) (fun C=>ht cl C fp s2 H2) (fun C=>he cl C fp s2 H2) (q2 _ (I2.hok.fresh (Nat.le_refl _))) ?_
 intro C H' s' σ' hC J' q'
 obtain ⟨m,hn,_⟩:=J'.loc
 refine ⟨m,hn,fun h' sb=>?_⟩
 have I':=comp_out I2 f2 J'
 have fk:=I2.fpOk (H':=H') hC J'.free
 obtain ⟨f0,f1,_,f3,f4,f5⟩:=fk
 exact ⟨.ref _,H',I'.turned (t':=s'.toks) (fun b o hb e=>(sb.2 b hb).trans e) f0 f1 f3 f4 f5,rfl,q'⟩
theorem ps_comp {i:Nat} {y:Str} {py:Pos} {spos:Pos} {elt iter tg:Expr} {ifs:List Expr} {pos:Pos} {wi:TI} {g:TG} {tt:TT} {te:TE} (hN:X.N.Nodup) (hy:X.N[i]?=some y) (hx:Loc X.env.scope y) (hc:X.calm=true) (hS:compOk X.N ts X.env.scope sc=true) (hi:PI X tg iter wi)
  (hg:∀ cl C fp s H,PG (compCx X ts sc cl C fp s H) tg g) (ht:∀ cl C fp s H,PTs (compCx X ts sc cl C fp s H) ifs tt) (he:∀ cl C fp s H,PE (compCx X ts sc cl C fp s H) elt te)
  (hsw:swapsWith (.ListComp elt [⟨tg,iter,ifs,0⟩] sc pos) (some (.Name y py)) spos.line X.env=pure true:=by rfl)
  (hs:∀ x,foldedSetIterable iter X.env x=pure x:=by intro _; rfl) (hf:X.fn y=true∨X.env.scope.names.lookup y=some .local:=by first | exact .inl rfl | exact .inr rfl | assumption) :
  PS X (.Assign [.Name y py] (.ListComp elt [⟨tg,iter,ifs,0⟩] sc pos) spos) (tAsg (tComp ts.length wi g tt te) (gName i)):=by
 intro pins s σ H D I h
 have S:=compSc_of hS
 obtain ⟨cl,hcl,c1,c2⟩:=closureFor_pure (comp_has I S)
 rw [exec_Assign_Name_used _ _ _ _ hsw]
 refine wpAny_bind (wpAny_standAt (wpAny_bind ?_))
 show wpAny _ X.A (do let _ ← comprehension (.ListComp elt [⟨tg,iter,ifs,0⟩] sc pos) sc X.env _ (newList []) false (eval iter X.env) (some (assign (.Name y py) X.env))) _ _ s
 refine wpAny_bind (wpAny_mono (wpAny_comprehension_free (use:=some (assign (.Name y py) X.env)) (Q:=fun _ s'=>SP X pins D .next s') (E:=X.xe) rfl hs hcl S.kind S.names ?_) (fun _ s' hq=>wpAny_pure (wpAny_pure hq)) fun _ _ e=>e)
 refine thn (hi pins s σ H _ I h) fun v s1 h1=>thn h1 fun itv s2 h2=>?_
 obtain ⟨it,fp,tn,J,H2,e,I2,T,st2,f2,q2⟩:=h2
 subst e
 refine comp_run (E:=X.xe) (RR:=fun acc C=>compPost (model X.prog X.w) X.A X.xe (some (assign (.Name y py) X.env)) (fun _ s'=>SP X pins D .next s') acc C) hc I2 T st2 f2 S c1 c2 (fun C=>hg cl C fp s2 H2) (fun C=>ht cl C fp s2 H2) (fun C=>he cl C fp s2 H2) (q2 _ (I2.hok.fresh (Nat.le_refl _))) ?_
 intro C H' s' σ' hC J' q'
 obtain ⟨m,hn,_⟩:=J'.loc
 have I':=comp_out I2 f2 J'
 have fk:=I2.fpOk (H':=H') hC J'.free
 obtain ⟨f0,f1,_,f3,f4,f5⟩:=fk
 show wpAny _ X.A (assign (.Name y py) X.env (.ref s2.heap.objs.size)) _ _ s'
 refine wpAny_assign_Name (store_ok2 (v:=.ref s2.heap.objs.size) I' hN hy hx rfl (fun s3 I3 ⟨a,sb,ha⟩=>?_) hf)
 have hCa:C≠a:=by
  rcases ha with z | z
  · rw [z]; exact f1
  · exact fun e=>f4 y a z e.symm
 refine ⟨m,hn.sameBut sb hCa,fun h' sb'=>?_⟩
 exact ⟨_,H',I3.turned (t':=s3.toks) (fun b o hb e=>(sb'.2 b hb).trans e) f0 f1 f3 f4 f5,q'⟩
end
end L2
namespace L2
open PySem PySem.Spec PyProof.Rows
noncomputable def Its (x:Str):It:=⟨fun i _=>i < x.cps.size,fun i H v H'=>H'=H∧∃ c,x.cps[i]?=some c∧v = .str ⟨#[c]⟩,fun i _=>x.cps.size≤i⟩
theorem strIter_cases (x:Str):(strIterType x="str_ascii_iterator")∨(strIterType x="str_iterator"):=by
 unfold strIterType
 cases x.cps.all (· < 128)
 · exact .inr rfl
 · exact .inl rfl
theorem turn_str {P:Program} {w:World} {K:PySem.W.Frag} {tg:Expr} (x:Str) (t:Tok) (it:Addr):Turn P w K tg (Its x) [it] it (fun i h=>h.IsStrIter it (strIterType x) x t i) where
 mem:=by simp
 obj:=fun i h st b hb=>by
  have e:b=it:=by simpa using hb
  subst e
  obtain ⟨o,e,c,d⟩:=st
  exact ⟨o,e,fun v z=>by rw [d] at z; cases z⟩
 keep:=fun i h h' st k=>by
  obtain ⟨o,e,c,d⟩:=st
  exact ⟨o,k it (by simp) o e,c,d⟩
 item:=by
  intro X hP hw hK hc i pins s σ H E I hf st hg
  subst hP hw hK
  obtain ⟨f0,f1,f2,f3,f4,f5⟩:=hf it (by simp)
  have hi:i < x.cps.size:=hg
  have hx:x.cps[i]?=some x.cps[i]:=by simp [hi]
  have fin:∀ h',h'.IsStrIter it (strIterType x) x t (i+1)→Heap.SameBut it s.heap h'→∃ u,(some (Value.str ⟨#[x.cps[i]]⟩ s.toks):Option Value)=some u ∧
    wpAny (model X.prog X.w) X.A (letOwnedTupleGo tg (.ref it) u) (fun _ s2=>∃ y H',Inv X pins σ H' s2∧RelV y u∧(Its x).yld i H y H'∧Heap.IsStrIter s2.heap it (strIterType x) x t (i+1)∧∀ b∈[it],H' b=none) E { s with heap:=h',toks:=s.toks+1 }:=fun h' st' sb=>by
   have I1:Inv X pins σ H { s with heap:=h',toks:=s.toks+1 }:=I.turned (t':=s.toks+1) (fun b o hb e=>(sb.2 b hb).trans e) f0 f1 f3 f4 f5
   obtain ⟨o,e,c,d⟩:=id st'
   refine ⟨_,rfl,go_of (s:={ s with heap:=h',toks:=s.toks+1 }) e c d ?_ ⟨.str ⟨#[x.cps[i]]⟩,H,I1,⟨_,rfl⟩,⟨rfl,_,hx,rfl⟩,st',fun b hb=>(hf b hb).1⟩⟩
   rcases strIter_cases x with z | z <;> rw [z] <;> decide
  rcases strIter_cases x with z | z
  · rw [z] at st fin
    refine wpAny_pyNext_ascii_item st hx fun h' st' sb=>?_
    have:=fin h' st' sb
    rw [← z] at this
    simpa [z] using this
  · rw [z] at st fin
    refine wpAny_pyNext_wide_item st hx fun h' st' sb=>?_
    have:=fin h' st' sb
    simpa [z] using this
 done:=by
  intro X hP hw hK hc i pins s σ H E I hf st hg
  subst hP hw hK
  obtain ⟨f0,f1,f2,f3,f4,f5⟩:=hf it (by simp)
  have hi:x.cps.size≤i:=hg
  have hx:x.cps[i]?=none:=by simp [hi]
  rcases strIter_cases x with z | z
  · rw [z] at st
    exact wpAny_pyNext_ascii_end (I.ok.hd hc) st hx fun h' eb=>⟨rfl,I.turned (t':=s.toks) (fun b o hb e=>eb b o hb e) f0 f1 f3 f4 f5⟩
  · rw [z] at st
    exact wpAny_pyNext_wide_end (I.ok.hd hc) st hx fun h' eb=>⟨rfl,I.turned (t':=s.toks) (fun b o hb e=>eb b o hb e) f0 f1 f3 f4 f5⟩
 self:=fun A i s Q E st h=>by
  rcases strIter_cases x with z | z
  · rw [z] at st; exact wpAny_pyIter_striter_ascii st h
  · rw [z] at st; exact wpAny_pyIter_striter_wide st h
section
variable {X:Cx} {tg:Expr}
noncomputable def rSlS:V→Option Int→Option Int→Hp→VK→Prop:=fun x lo hi H Q=>∃ z,x = .str z∧z.length≤sizeLine∧Q (.str (Txt.slice z lo hi)) H
theorem sl_str:SlR X rSlS:=by
 intro pins s σ H x v vl vu lo hi sl Q I rx hs pl pu h
 obtain ⟨z,rfl,hz,q⟩:=h
 obtain ⟨t,rfl⟩:=rx
 obtain ⟨o,e,c,d⟩:=hs
 refine ⟨"str",_,slot_str_getitem.lookup,typeIs_str _ _ _,?_⟩
 cases pl with
 | none =>
   cases pu with
   | none=>exact wpAny_getItem_str_slice (l:=none) (u:=none) (st:=none) ⟨o,e,c,d⟩ rfl (post_val_or_str ⟨Nat.le_trans (Txt.slice_le z _ _) hz,fun t' k=>⟨.str _,H,I.tok _,⟨_,rfl⟩,q⟩⟩)
   | int j tj=>exact wpAny_getItem_str_slice (l:=none) (u:=some (j,tj)) (st:=none) ⟨o,e,c,d⟩ rfl (post_val_or_str ⟨Nat.le_trans (Txt.slice_le z _ _) hz,fun t' k=>⟨.str _,H,I.tok _,⟨_,rfl⟩,q⟩⟩)
 | int i ti =>
   cases pu with
   | none=>exact wpAny_getItem_str_slice (l:=some (i,ti)) (u:=none) (st:=none) ⟨o,e,c,d⟩ rfl (post_val_or_str ⟨Nat.le_trans (Txt.slice_le z _ _) hz,fun t' k=>⟨.str _,H,I.tok _,⟨_,rfl⟩,q⟩⟩)
   | int j tj=>exact wpAny_getItem_str_slice (l:=some (i,ti)) (u:=some (j,tj)) (st:=none) ⟨o,e,c,d⟩ rfl (post_val_or_str ⟨Nat.le_trans (Txt.slice_le z _ _) hz,fun t' k=>⟨.str _,H,I.tok _,⟨_,rfl⟩,q⟩⟩)
end
end L2
namespace L2
open PySem PySem.Spec PyProof.Rows
theorem same_upd {H:Hp} {D:Addr} {o:HO} (h:H D=none):Same H (upd H D o):=fun b u e=>by rw [upd_ne (ne_of_none e h)]; exact e
end L2
namespace L2
open PySem PySem.Spec PyProof.Rows
section
variable {X:Cx} {pins:List (Addr×Obj)} {σ:St} {H H':Hp} {s:Shared} {h':Heap}
theorem Inv.grown {t':Nat} {ch:List Addr} {t:Addr} {o:HO} (I:Inv X pins σ H s) (k:∀ b u,b∉ch→s.heap.get? b=some u→h'.get? b=some u) (hf:∀ b∈ch,FpOk X pins H b) (ht:s.heap.objs.size≤t)
  (new:ObjOk X.prog X.w (upd H t o) h' t o):Inv X pins σ (upd H t o) { s with heap:=h',toks:=t' }:=by
 have hn:H t=none:=I.hok.fresh ht
 have nch:∀ b u,H b=some u→b∉ch:=fun b u e z=>by rw [(hf b z).1] at e; cases e
 refine I.step (g':=s.gens) (d':=s.drawn) (ch:=ch) (fun b hb=>?_) (fun b u _ _ hc e _=>k b u hc e) (fun b u _ _ hc e _=>⟨u.slots,k b u hc e⟩) (fun b u _ e n=>?_) (fun b u hc e=>⟨u,k b u hc e⟩)
  (fun b xs e=>?_) (fun b u v e=>?_) (fun b ps e=>⟨#[],?_⟩) (fun m hm=>?_) (fun b u e=>?_) I.bare
 · obtain ⟨_,f1,_,f3,f4,f5⟩:=hf b hb
   exact ⟨f3,f1,f4,f5⟩
 · rw [upd_ne (Nat.ne_of_lt (Nat.lt_of_lt_of_le (Heap.lt_size e) ht))]; exact n
 · rw [upd_ne (ne_of_none e hn)]; exact e
 · rw [upd_ne (ne_of_none e hn)]; exact e
 · rw [upd_ne (ne_of_none e hn),e]; simp
 · obtain ⟨ob,es,ep,ho,r⟩:=hm
   exact ⟨ob,es,ep,k _ ob (fun z=>(hf _ z).2.1 rfl) ho,r⟩
 · by_cases hb:b=t
   · subst hb; rw [upd_same] at e; cases e; exact new
   · rw [upd_ne hb] at e
     refine (I.hok b u e).stay (fun c v hc q=>k c v ?_ q) (fun c q=>by rw [upd_ne (ne_of_none q hn)]; exact q) fun c xs q=>by rw [upd_ne (ne_of_none q hn)]; exact q
     rcases hc with z | z
     · rw [z]; exact nch b u e
     · exact nch c _ z
end
noncomputable def Ite (K:PySem.W.Frag) (a:Addr):It :=
 ⟨fun i H=>∃ xs x,SqL K H a xs∧xs[i]?=some x,fun i H v H'=>∃ t x,H t=none∧v = .ref t∧(∀ xs,SqL K H a xs→xs[i]?=some x)∧H'=upd H t (.tup [.int (i:Int),x]),fun i H=>∃ xs,SqL K H a xs∧xs.length≤i⟩
theorem turn_enum {P:Program} {w:World} {K:PySem.W.Frag} {elts:List Expr} {x1} {tp:Pos} (a e it:Addr) (hne:e≠it) :
  Turn P w K (.Tuple elts x1 tp) (Ite K a) [e,it] e (fun i h=>(∃ old,IsEnum h e it (i:Int) old)∧h.IsListIter it a i) where
 mem:=by simp
 obj:=fun i h st b hb=>by
  obtain ⟨⟨old,h1⟩,o,h2,c,d⟩:=st
  rcases List.mem_cons.mp hb with z | z
  · subst z
    exact ⟨_,h1,fun v z=>by cases z⟩
  · have z':b=it:=by simpa using z
    subst z'
    exact ⟨o,h2,fun v z=>by rw [d] at z; cases z⟩
 keep:=fun i h h' st k=>by
  obtain ⟨⟨old,h1⟩,st2⟩:=st
  exact ⟨⟨old,k e (by simp) _ h1⟩,st2.at fun o q=>k it (by simp) o q⟩
 item:=by
  intro X hP hw hK hc i pins s σ H E I hf st hg
  subst hP hw hK
  obtain ⟨xs,x,hq,hx⟩:=hg
  obtain ⟨its,rv,p,hz⟩:=I.list hq
  obtain ⟨u,hu,ru⟩:=rv.get hx
  obtain ⟨⟨old,h1⟩,st2⟩:=st
  refine wpAny_pyNext_enum_item h1 st2 p.isList (x:=u) (by simpa using hu) hne fun h₁ heo hit₁ ht₁ hz₁ hk₁=>?_
  refine ⟨_,rfl,wpAny_letOwnedTupleGo_enum heo fun h₂ he₂ hs₂=>?_⟩
  have hs₂':Heap.SameBut e h₁ h₂:=hs₂
  have hlt:e < s.heap.objs.size:=Heap.lt_size h1
  have hte:s.heap.objs.size≠e:=Nat.ne_of_gt hlt
  have kk:∀ b ob,b∉[e,it]→s.heap.get? b=some ob→h₂.get? b=some ob:=fun b ob hb q=>by
   have hbe:b≠e:=fun z=>hb (by simp [z])
   have hbi:b≠it:=fun z=>hb (by simp [z])
   exact (hs₂'.2 b hbe).trans (hk₁ b ob hbe hbi q)
  have new:ObjOk X.prog X.w (upd H s.heap.objs.size (.tup [.int (i:Int),x])) h₂ s.heap.objs.size (.tup [.int (i:Int),x]) :=
   ⟨by show 2≤sizeLine; rw [sizeLine_eq]; decide,[.int i s.toks,u],.cons ⟨_,rfl⟩ (.cons ru .nil),⟨_,(hs₂'.2 _ hte).trans ht₁,rfl,_,rfl⟩⟩
  refine ⟨.ref s.heap.objs.size,upd H s.heap.objs.size (.tup [.int (i:Int),x]),I.grown (t':=s.toks+1) kk hf (Nat.le_refl _) new,rfl,⟨_,x,I.fresh,rfl,fun ys hy=>by rw [I.list_inj hy hq]; exact hx,rfl⟩,⟨⟨u,?_⟩,?_⟩,fun b hb=>?_⟩
  · have:((i:Int)+1)=((i+1:Nat):Int):=by omega
    rw [← this]; exact he₂
  · obtain ⟨o,q,r⟩:=hit₁
    exact ⟨o,(hs₂'.2 it (Ne.symm hne)).trans q,r⟩
  · have hbl:b < s.heap.objs.size:=by
     rcases List.mem_cons.mp hb with z | z
     · subst z; exact hlt
     · have z':b=it:=by simpa using z
       subst z'
       obtain ⟨o,q,_⟩:=st2
       exact Heap.lt_size q
    rw [upd_ne (Nat.ne_of_lt hbl)]
    exact (hf b hb).1
 done:=by
  intro X hP hw hK hc i pins s σ H E I hf st hg
  subst hP hw hK
  obtain ⟨xs,hq,hx⟩:=hg
  obtain ⟨its,rv,p,hz⟩:=I.list hq
  have hl:=rv.length
  obtain ⟨⟨old,h1⟩,st2⟩:=st
  obtain ⟨f0,f1,f2,f3,f4,f5⟩:=hf it (by simp)
  exact wpAny_pyNext_enum_end (I.ok.hd hc) h1 st2 p.isList (by simp; omega) fun h' eb=>⟨rfl,I.turned (t':=s.toks) (fun b o hb q=>eb b o hb q) f0 f1 f3 f4 f5⟩
 self:=fun _ _ _ _ _ st h=>by
  obtain ⟨⟨old,h1⟩,_⟩:=st
  exact wpAny_pyIter_enum h1 h
noncomputable def iEnum (K:PySem.W.Frag) (ta:TA):TI:=fun σ H R=>ta σ H fun vs H1=>∃ a,vs=[.ref a]∧(∃ xs,SqL K H1 a xs)∧R (Ite K a) H1
section
variable {X:Cx}
theorem boot_enumerate:bootBuiltins "enumerate" = some (.type "enumerate"):=by decide +kernel
theorem pi_enum {elts:List Expr} {x1} {tp:Pos} {a:Expr} {ta:TA} {p pos:Pos} (hg:Gl X "enumerate") (hm:X.mg "enumerate" = none) (ha:PA X [a] ta) (hs:starEach [a] X.env=[(false,eval a X.env)]:=by rfl) :
  PI X (.Tuple elts x1 tp) (.Call (.Name "enumerate" p) [a] [] pos) (iEnum X.K ta):=by
 intro pins s σ H R I h
 refine Call_ (ld_blt I hg hm boot_enumerate (PyProof.Rows.callWith_type1 (thn (ha pos pins s σ H _ I h) fun us s1 ⟨vs,H1,I1,r1,q1⟩=>?_) hs rfl))
 obtain ⟨b,e,⟨xs,hq⟩,q⟩:=q1
 subst e
 obtain ⟨u,rfl,ru⟩:=vals1 r1
 cases ru
 obtain ⟨its,rv,pl,hz⟩:=I1.list hq
 refine call_enumerate_list pl.isList fun h' he hit hsz hk=>?_
 have I2:Inv X pins σ H1 { s1 with heap:=h' }:=I1.kept (t':=s1.toks) hk
 refine wpAny_pyIter_enum he ?_
 refine ⟨s1.heap.objs.size+1,[s1.heap.objs.size+1,s1.heap.objs.size],_,_,H1,rfl,I2,turn_enum b _ _ (Nat.ne_of_gt (Nat.lt_succ_self _)),⟨⟨_,he⟩,hit⟩,fun c hc=>?_,q⟩
 rcases List.mem_cons.mp hc with z | z
 · subst z; exact I1.fpOk (Nat.le_succ _) (I1.hok.fresh (Nat.le_succ _))
 · have z':c=s1.heap.objs.size:=by simpa using z
   subst z'; exact I1.fpOk (Nat.le_refl _) I1.fresh
end
end L2
namespace L2
open PySem PySem.Spec PyProof.Rows
section
variable {X:Cx}
end
end L2
namespace K01
open PySem Builtin Builtin.Str
noncomputable def letters:Str:="abcdefghijklmnopqrstuvwxyz"
noncomputable def inL (c:Nat):Bool:=!(occurrences letters ⟨#[c]⟩ 0 letters.length 1).isEmpty
noncomputable def nameS (x:Str):Bool:=decide (1≤(x.length:Int)) && (decide ((x.length:Int)≤8) && x.cps.toList.all inL)
end K01
namespace VT
open PySem PySem.Spec PyProof.Rows L2
noncomputable abbrev St:=L2.St
inductive T where
 | non | bl (b:Bool) | int (i:Int) | str (x:Str) | tup (l:List T) | lst (l:List T) | dk (ks:List Key) (vs:List T) | dt (ks:List (List Key)) (vs:List T) | df (o:Obj) (ks:List (List Key)) (vs:List T) | dz (o:Obj) (ks:List Key) (vs:List T) | kt (k:List Key) | ins (C:Addr) (ns:List Str) (vs:List T) | pin (a:Addr) (t:T) | ob (a:Addr) | ty (n:String)
noncomputable def LsAt (K:PySem.W.Frag) (H:Hp) (O:List Addr) (a:Addr) (vs:List V):Prop :=
 (Rd H a (.lst vs)∧a∉O)∨∃ (o:Obj) (its:Array Value) (n:Nat),K.lookup a=some o∧o.cls = .type "list"∧o.dict=none∧o.data = .seq its n∧its.size≤sizeLine∧Vals vs its.toList
theorem LsAt.sq {K:PySem.W.Frag} {H:Hp} {O:List Addr} {a:Addr} {vs:List V} (h:LsAt K H O a vs):SqL K H a vs:=by
 rcases h with h | h
 · exact .inl h.1
 · exact .inr h
noncomputable def DkAt (H:Hp) (O:List Addr) (a:Addr) (u:HO):Prop:=H a=some u∧a∉O
mutual
noncomputable def At (K:PySem.W.Frag) (H:Hp) (O:List Addr):T→V→Prop
 | .non,v=>v = .non
 | .bl b,v=>v = .bl b
 | .int i,v=>v = .int i
 | .str x,v=>v = .str x
 | .ob a,v=>v = .ref a
 | .ty n,v=>v = .ty n
 | .tup ts,v=>∃ a vs,v = .ref a∧SqT K H a vs∧AtL K H O ts vs
 | .lst ts,v=>∃ a vs,v = .ref a∧LsAt K H O a vs∧AtL K H O ts vs
 | .dk ks ts,v=>∃ a vs,v = .ref a∧ks.length=vs.length∧DkAt H O a (.dK (ks.zip vs))∧AtL K H O ts vs
 | .dt ks ts,v=>∃ a vs,v = .ref a∧ks.length=vs.length∧DkAt H O a (.dT (ks.zip vs))∧AtL K H O ts vs
 | .df o ks ts,v=>∃ a vs,v = .ref a∧ks.length=vs.length∧DkAt H O a (.frz o (.dT (ks.zip vs)))∧AtL K H O ts vs
 | .dz o ks ts,v=>∃ a vs,v = .ref a∧ks.length=vs.length∧DkAt H O a (.frz o (.dK (ks.zip vs)))∧AtL K H O ts vs
 | .kt k,v=>∃ a,v = .ref a∧DkAt H O a (.tup (k.map kV))
 | .pin a t,v=>v = .ref a∧At K H O t v
 | .ins C ns ts,v=>∃ a dx vs,v = .ref a∧ns.length=vs.length∧DkAt H O a (.ins C dx (ns.zip vs))∧AtL K H O ts vs
noncomputable def AtL (K:PySem.W.Frag) (H:Hp) (O:List Addr):List T→List V→Prop
 | [],vs=>vs=[]
 | t :: ts,vs=>∃ v r,vs=v :: r∧At K H O t v∧AtL K H O ts r
end
section
variable {K:PySem.W.Frag} {H H':Hp} {O O':List Addr}
mutual
theorem At.map (hl:∀ a vs,LsAt K H O a vs→LsAt K H' O' a vs) (ht:∀ a vs,SqT K H a vs→SqT K H' a vs) (hd:∀ a u,DkAt H O a u→DkAt H' O' a u):∀ {t:T} {v:V},At K H O t v→At K H' O' t v
 | .non,_,h=>by simpa only [At] using h
 | .bl _,_,h=>by simpa only [At] using h
 | .int _,_,h=>by simpa only [At] using h
 | .str _,_,h=>by simpa only [At] using h
 | .ob _,_,h=>by simpa only [At] using h
 | .ty _,_,h=>by simpa only [At] using h
 | .tup ts,_,h=>by
   simp only [At] at h ⊢
   obtain ⟨a,vs,e,h1,h2⟩:=h
   exact ⟨a,vs,e,ht a vs h1,AtL.map hl ht hd h2⟩
 | .lst ts,_,h=>by
   simp only [At] at h ⊢
   obtain ⟨a,vs,e,h1,h2⟩:=h
   exact ⟨a,vs,e,hl a vs h1,AtL.map hl ht hd h2⟩
 | .dk ks ts,_,h=>by
   simp only [At] at h ⊢
   obtain ⟨a,vs,e,h0,h1,h2⟩:=h
   exact ⟨a,vs,e,h0,hd _ _ h1,AtL.map hl ht hd h2⟩
 | .dt ks ts,_,h=>by
   simp only [At] at h ⊢
   obtain ⟨a,vs,e,h0,h1,h2⟩:=h
   exact ⟨a,vs,e,h0,hd _ _ h1,AtL.map hl ht hd h2⟩
 | .df o ks ts,_,h=>by
   simp only [At] at h ⊢
   obtain ⟨a,vs,e,h0,h1,h2⟩:=h
   exact ⟨a,vs,e,h0,hd _ _ h1,AtL.map hl ht hd h2⟩
 | .dz o ks ts,_,h=>by
   simp only [At] at h ⊢
   obtain ⟨a,vs,e,h0,h1,h2⟩:=h
   exact ⟨a,vs,e,h0,hd _ _ h1,AtL.map hl ht hd h2⟩
 | .kt k,_,h=>by
   simp only [At] at h ⊢
   obtain ⟨a,e,h1⟩:=h
   exact ⟨a,e,hd _ _ h1⟩
 | .pin a t,_,h=>by
   simp only [At] at h ⊢
   exact ⟨h.1,At.map hl ht hd h.2⟩
 | .ins C ns ts,_,h=>by
   simp only [At] at h ⊢
   obtain ⟨a,dx,vs,e,h0,h1,h2⟩:=h
   exact ⟨a,dx,vs,e,h0,hd _ _ h1,AtL.map hl ht hd h2⟩
theorem AtL.map (hl:∀ a vs,LsAt K H O a vs→LsAt K H' O' a vs) (ht:∀ a vs,SqT K H a vs→SqT K H' a vs) (hd:∀ a u,DkAt H O a u→DkAt H' O' a u):∀ {ts:List T} {vs:List V},AtL K H O ts vs→AtL K H' O' ts vs
 | [],_,h=>by simpa only [AtL] using h
 | t :: ts,_,h=>by
   simp only [AtL] at h ⊢
   obtain ⟨v,r,e,h1,h2⟩:=h
   exact ⟨v,r,e,At.map hl ht hd h1,AtL.map hl ht hd h2⟩
end
theorem Rd.same {a:Addr} {u:HO} (s:Same H H') (h:Rd H a u):Rd H' a u:=by
 rcases h with h | ⟨o,h⟩
 · exact .inl (s _ _ h)
 · exact .inr ⟨o,s _ _ h⟩
theorem SqT.same {a:Addr} {vs:List V} (s:Same H H') (h:SqT K H a vs):SqT K H' a vs:=by
 rcases h with h | h
 · exact .inl (Rd.same s h)
 · exact .inr h
theorem LsAt.same {a:Addr} {vs:List V} (s:Same H H') (h:LsAt K H O a vs):LsAt K H' O a vs:=by
 rcases h with h | h
 · exact .inl ⟨Rd.same s h.1,h.2⟩
 · exact .inr h
theorem At.same {t:T} {v:V} (s:Same H H') (h:At K H O t v):At K H' O t v:=At.map (fun _ _ q=>q.same s) (fun _ _ q=>SqT.same s q) (fun _ _ q=>⟨s _ _ q.1,q.2⟩) h
theorem AtL.same {t:List T} {v:List V} (s:Same H H') (h:AtL K H O t v):AtL K H' O t v:=AtL.map (fun _ _ q=>q.same s) (fun _ _ q=>SqT.same s q) (fun _ _ q=>⟨s _ _ q.1,q.2⟩) h
theorem At.fewer {t:T} {v:V} (s:∀ a∈O',a∈O) (h:At K H O t v):At K H O' t v :=
 At.map (fun a vs q=>q.elim (fun z=>.inl ⟨z.1,fun m=>z.2 (s a m)⟩) .inr) (fun _ _ q=>q) (fun a _ q=>⟨q.1,fun m=>q.2 (s a m)⟩) h
theorem AtL.fewer {t:List T} {v:List V} (s:∀ a∈O',a∈O) (h:AtL K H O t v):AtL K H O' t v :=
 AtL.map (fun a vs q=>q.elim (fun z=>.inl ⟨z.1,fun m=>z.2 (s a m)⟩) .inr) (fun _ _ q=>q) (fun a _ q=>⟨q.1,fun m=>q.2 (s a m)⟩) h
theorem Rd.some {a:Addr} {u:HO} (h:Rd H a u):H a≠none:=by
 rcases h with h | ⟨o,h⟩ <;> rw [h] <;> simp
theorem At.more {t:T} {v:V} (s:∀ a∈O',a∈O∨H a=none) (h:At K H O t v):At K H O' t v :=
 At.map (fun a vs q=>q.elim (fun z=>.inl ⟨z.1,fun m=>(s a m).elim z.2 (Rd.some z.1)⟩) .inr) (fun _ _ q=>q) (fun a kvs q=>⟨q.1,fun m=>(s a m).elim q.2 (by rw [q.1]; simp)⟩) h
theorem AtL.more {t:List T} {v:List V} (s:∀ a∈O',a∈O∨H a=none) (h:AtL K H O t v):AtL K H O' t v :=
 AtL.map (fun a vs q=>q.elim (fun z=>.inl ⟨z.1,fun m=>(s a m).elim z.2 (Rd.some z.1)⟩) .inr) (fun _ _ q=>q) (fun a kvs q=>⟨q.1,fun m=>(s a m).elim q.2 (by rw [q.1]; simp)⟩) h
noncomputable def mutO:HO→Bool
 | .lst _=>true
 | .dK _=>true
 | .dT _=>true
 | .ins _ _ _=>true
 | _=>false
theorem At.wrote {t:T} {v:V} {a:Addr} {o u:HO} (ha:a∈O) (hu:H a=some u) (hm:mutO u=true) (h:At K H O t v):At K (upd H a o) O t v:=by
 have ne:∀ b,b∉O→b≠a:=fun b hb e=>hb (by rw [e]; exact ha)
 refine At.map (fun b vs q=>?_) (fun b vs q=>?_) (fun b kvs q=>?_) h
 · rcases q with q | q
   · refine .inl ⟨?_,q.2⟩
     rcases q.1 with z | ⟨o',z⟩
     · exact .inl (by rw [upd_ne (ne b q.2)]; exact z)
     · exact .inr ⟨o',by rw [upd_ne (ne b q.2)]; exact z⟩
   · exact .inr q
 · rcases q with z | z
   · refine .inl ?_
     rcases z with z | ⟨o',z⟩
     · exact .inl (by rw [upd_ne (ne_of z hu (by intro e; subst e; cases hm))]; exact z)
     · exact .inr ⟨o',by rw [upd_ne (ne_of z hu (by intro e; subst e; cases hm))]; exact z⟩
   · exact .inr z
 · exact ⟨by rw [upd_ne (ne b q.2)]; exact q.1,q.2⟩
theorem AtL.iff {ts:List T}:∀ {vs:List V},AtL K H O ts vs↔Paired (fun v t=>At K H O t v) vs ts:=by
 induction ts with
 | nil=>intro vs; simp only [AtL]; exact ⟨fun e=>by subst e; exact .nil,fun h=>by cases h; rfl⟩
 | cons t ts ih =>
   intro vs
   simp only [AtL]
   constructor
   · rintro ⟨v,r,rfl,h1,h2⟩
     exact .cons h1 (ih.mp h2)
   · intro h
     cases h with
     | cons h1 h2=>exact ⟨_,_,rfl,h1,ih.mpr h2⟩
theorem AtL.wrote {t:List T} {v:List V} {a:Addr} {o u:HO} (ha:a∈O) (hu:H a=some u) (hm:mutO u=true) (h:AtL K H O t v):AtL K (upd H a o) O t v :=
 AtL.iff.mpr (Paired.mapP (AtL.iff.mp h) fun _ _ q=>q.wrote ha hu hm)
theorem AtL.length {ts:List T} {vs:List V} (h:AtL K H O ts vs):vs.length=ts.length:=Paired.length (AtL.iff.mp h)
theorem AtL.get {ts:List T} {vs:List V} (h:AtL K H O ts vs) {i:Nat} {t:T} (e:ts[i]?=some t):∃ v,vs[i]?=some v∧At K H O t v:=by
 have q:=AtL.iff.mp h
 clear h
 induction q generalizing i with
 | nil=>simp at e
 | cons r _ ih =>
   cases i with
   | zero=>simp at e; subst e; exact ⟨_,rfl,r⟩
   | succ i=>obtain ⟨v,h1,h2⟩:=ih (i:=i) (by simpa using e); exact ⟨v,by simpa using h1,h2⟩
theorem AtL.cons {t:T} {ts:List T} {v:V} {vs:List V} (h:At K H O t v) (hs:AtL K H O ts vs):AtL K H O (t :: ts) (v :: vs):=by
 simp only [AtL]; exact ⟨v,vs,rfl,h,hs⟩
theorem AtL.nil:AtL K H O [] []:=by simp only [AtL]
theorem AtL.append {ts us:List T} {vs ws:List V} (h:AtL K H O ts vs) (h':AtL K H O us ws):AtL K H O (ts ++ us) (vs ++ ws):=by
 rw [AtL.iff] at h h' ⊢
 induction h with
 | nil=>exact h'
 | cons r _ ih=>exact .cons r ih
theorem AtL.drop {ts:List T} {vs:List V} (n:Nat) (h:AtL K H O ts vs):AtL K H O (ts.drop n) (vs.drop n):=by
 rw [AtL.iff] at h ⊢
 induction h generalizing n with
 | nil=>cases n <;> exact .nil
 | cons r t ih=>cases n with
   | zero=>exact .cons r t
   | succ n=>exact ih n
theorem AtL.take {ts:List T} {vs:List V} (n:Nat) (h:AtL K H O ts vs):AtL K H O (ts.take n) (vs.take n):=by
 rw [AtL.iff] at h ⊢
 induction h generalizing n with
 | nil=>cases n <;> exact .nil
 | cons r t ih=>cases n with
   | zero=>exact .nil
   | succ n=>exact .cons r (ih n)
theorem AtL.set {ts:List T} {vs:List V} {t:T} {v:V} (i:Nat) (h:AtL K H O ts vs) (q:At K H O t v):AtL K H O (ts.set i t) (vs.set i v):=by
 rw [AtL.iff] at h ⊢
 induction h generalizing i with
 | nil=>exact .nil
 | cons r s ih=>cases i with
   | zero=>exact .cons q s
   | succ i=>exact .cons r (ih i)
end
mutual
noncomputable def imm:T→Bool
 | .tup ts=>imms ts
 | .lst _=>false
 | .dk _ _=>false
 | .dt _ _=>false
 | .df _ _ _=>false
 | .dz _ _ _=>false
 | .kt _=>false
 | .ins _ _ _=>false
 | .pin _ _=>false
 | _=>true
noncomputable def imms:List T→Bool
 | []=>true
 | t :: ts=>imm t && imms ts
end
section
variable {K:PySem.W.Frag} {H H':Hp} {O O':List Addr}
mutual
theorem At.imm:∀ {t:T} {v:V},imm t=true→At K H O t v→At K H O' t v
 | .non,_,_,h=>by simpa only [At] using h
 | .bl _,_,_,h=>by simpa only [At] using h
 | .int _,_,_,h=>by simpa only [At] using h
 | .str _,_,_,h=>by simpa only [At] using h
 | .ob _,_,_,h=>by simpa only [At] using h
 | .ty _,_,_,h=>by simpa only [At] using h
 | .tup ts,_,i,h=>by
   simp only [At] at h ⊢
   simp only [VT.imm] at i
   obtain ⟨a,vs,e,h1,h2⟩:=h
   exact ⟨a,vs,e,h1,AtL.imm i h2⟩
 | .lst ts,_,i,h=>by simp only [VT.imm] at i; cases i
 | .dk _ _,_,i,h=>by simp only [VT.imm] at i; cases i
 | .dt _ _,_,i,h=>by simp only [VT.imm] at i; cases i
 | .df _ _ _,_,i,h=>by simp only [VT.imm] at i; cases i
 | .dz _ _ _,_,i,h=>by simp only [VT.imm] at i; cases i
 | .kt _,_,i,h=>by simp only [VT.imm] at i; cases i
 | .ins _ _ _,_,i,h=>by simp only [VT.imm] at i; cases i
 | .pin _ _,_,i,h=>by simp only [VT.imm] at i; cases i
theorem AtL.imm:∀ {ts:List T} {vs:List V},imms ts=true→AtL K H O ts vs→AtL K H O' ts vs
 | [],_,_,h=>by simpa only [AtL] using h
 | t :: ts,_,i,h=>by
   simp only [VT.imms,Bool.and_eq_true] at i
   simp only [AtL] at h ⊢
   obtain ⟨v,r,e,h1,h2⟩:=h
   exact ⟨v,r,e,At.imm i.1 h1,AtL.imm i.2 h2⟩
end
end
end VT
namespace VT
open PySem PySem.Spec PyProof.Rows L2
noncomputable abbrev En:=List (Option (T×Bool))
structure Zc where
 H0:Hp
 P:List (Nat×Addr)
 Ox:List Addr
noncomputable def Zc.ex (Z:Zc) (a:Addr):Zc:={ Z with Ox:=a :: Z.Ox }
noncomputable def Root (K:PySem.W.Frag) (H:Hp) (A:List Addr) (a:Addr):T→Prop
 | .lst ts=>∃ vs,H a=some (.lst vs)∧AtL K H A ts vs
 | .dk ks ts=>∃ vs,ks.length=vs.length∧H a=some (.dK (ks.zip vs))∧AtL K H A ts vs
 | .dt ks ts=>∃ vs,ks.length=vs.length∧H a=some (.dT (ks.zip vs))∧AtL K H A ts vs
 | .ins C ns ts=>∃ dx vs,ns.length=vs.length∧H a=some (.ins C dx (ns.zip vs))∧AtL K H A ts vs
 | _=>False
noncomputable def SlotAt (K:PySem.W.Frag) (H:Hp) (A:List Addr):Option (T×Bool)→Option Addr→Option V→Prop
 | none,o,_=>o=none
 | some (t,false),o,s=>o=none∧∃ v,s=some v∧At K H A t v
 | some (t,true),o,s=>∃ a,o=some a∧s=some (.ref a)∧Root K H A a t
noncomputable def roots (O:List (Option Addr)):List Addr:=O.filterMap id
noncomputable def av (Z:Zc) (O:List (Option Addr)):List Addr:=roots O ++ Z.Ox
structure EnvAt (K:PySem.W.Frag) (Z:Zc) (tm:List (T×V)) (O:List (Option Addr)) (ρ:En) (σ:St) (H:Hp):Prop where
 lσ:σ.length=ρ.length
 lO:O.length=ρ.length
 sl:∀ (i:Nat) e,ρ[i]?=some e→∃ o s,O[i]?=some o∧σ[i]?=some s∧SlotAt K H (av Z O) e o s
 nd:(roots O).Nodup
 own:∀ a∈roots O,(a∈Z.P.map (·.2)∨Z.H0 a=none)∧a∉Z.Ox∧∃ u,H a=some u∧mutO u=true
 par:∀ p∈Z.P,O[p.1]?=some (some p.2)
 ox:∀ a∈Z.Ox,H a≠none
 keep:∀ b o,Z.H0 b=some o→b∉Z.P.map (·.2)→H b=some o
 tmp:∀ p∈tm,At K H (av Z O) p.1 p.2
section
variable {K:PySem.W.Frag} {Z:Zc} {tm:List (T×V)} {O:List (Option Addr)} {ρ:En} {σ:St} {H H':Hp}
theorem Root.map {A A':List Addr} {a:Addr} {t:T} (h:Root K H A a t) (h1:H' a=H a) (h2:∀ ts vs,AtL K H A ts vs→AtL K H' A' ts vs):Root K H' A' a t:=by
 cases t with
 | lst ts=>obtain ⟨vs,e,q⟩:=h; exact ⟨vs,h1.trans e,h2 _ _ q⟩
 | dk ks ts=>obtain ⟨vs,l,e,q⟩:=h; exact ⟨vs,l,h1.trans e,h2 _ _ q⟩
 | dt ks ts=>obtain ⟨vs,l,e,q⟩:=h; exact ⟨vs,l,h1.trans e,h2 _ _ q⟩
 | ins C ns ts=>obtain ⟨dx,vs,l,e,q⟩:=h; exact ⟨dx,vs,l,h1.trans e,h2 _ _ q⟩
 | _=>exact h.elim
theorem Root.mut {A:List Addr} {a:Addr} {t:T} (h:Root K H A a t):∃ u,H a=some u∧mutO u=true:=by
 cases t with
 | lst ts=>obtain ⟨vs,e,q⟩:=h; exact ⟨_,e,rfl⟩
 | dk ks ts=>obtain ⟨vs,l,e,q⟩:=h; exact ⟨_,e,rfl⟩
 | dt ks ts=>obtain ⟨vs,l,e,q⟩:=h; exact ⟨_,e,rfl⟩
 | ins C ns ts=>obtain ⟨dx,vs,l,e,q⟩:=h; exact ⟨_,e,rfl⟩
 | _=>exact h.elim
theorem Root.fewer {A A':List Addr} {a:Addr} {t:T} (h:Root K H A a t) (s:∀ b∈A',b∈A):Root K H A' a t:=h.map rfl fun _ _ q=>q.fewer s
theorem Root.same {A:List Addr} {a:Addr} {t:T} (h:Root K H A a t) (s:Same H H'):Root K H' A a t:=by
 obtain ⟨u,e,_⟩:=h.mut
 exact h.map (by rw [e]; exact s _ _ e) fun _ _ q=>q.same s
theorem Root.at {A:List Addr} {a:Addr} {t:T} (h:Root K H A a t) (n:a∉A):At K H A t (.ref a):=by
 cases t with
 | lst ts=>obtain ⟨vs,e,q⟩:=h; simp only [At]; exact ⟨a,vs,rfl,.inl ⟨.inl e,n⟩,q⟩
 | dk ks ts=>obtain ⟨vs,l,e,q⟩:=h; simp only [At]; exact ⟨a,vs,rfl,l,⟨e,n⟩,q⟩
 | dt ks ts=>obtain ⟨vs,l,e,q⟩:=h; simp only [At]; exact ⟨a,vs,rfl,l,⟨e,n⟩,q⟩
 | ins C ns ts=>obtain ⟨dx,vs,l,e,q⟩:=h; simp only [At]; exact ⟨a,dx,vs,rfl,l,⟨e,n⟩,q⟩
 | _=>exact h.elim
theorem SlotAt.map {A A':List Addr} {e:Option (T×Bool)} {o:Option Addr} {s:Option V} (h:SlotAt K H A e o s) (h1:∀ t v,At K H A t v→At K H' A' t v) (h2:∀ a t,o=some a→Root K H A a t→Root K H' A' a t):SlotAt K H' A' e o s:=by
 match e,h with
 | none,h=>exact h
 | some (t,false),⟨e,v,es,q⟩=>exact ⟨e,v,es,h1 _ _ q⟩
 | some (t,true),⟨a,e,es,q⟩=>exact ⟨a,e,es,h2 _ _ e q⟩
theorem mem_roots {a:Addr}:a∈roots O↔some a∈O:=by
 unfold roots
 rw [List.mem_filterMap]
 exact ⟨fun ⟨x,h,e⟩=>by rw [id] at e; rw [← e]; exact h,fun h=>⟨_,h,rfl⟩⟩
theorem EnvAt.avH (I:EnvAt K Z tm O ρ σ H):∀ a∈av Z O,H a≠none:=fun a h=>by
 rcases List.mem_append.mp h with h | h
 · obtain ⟨_,_,u,e,_⟩:=I.own a h; rw [e]; simp
 · exact I.ox a h
theorem EnvAt.same (I:EnvAt K Z tm O ρ σ H) (s:Same H H'):EnvAt K Z tm O ρ σ H' :=
 ⟨I.lσ,I.lO,fun i e h=>let ⟨o,w,h1,h2,h3⟩:=I.sl i e h; ⟨o,w,h1,h2,h3.map (fun _ _ q=>q.same s) fun _ _ _ q=>q.same s⟩,I.nd,
   fun a h=>let ⟨h1,h2,u,e,m⟩:=I.own a h; ⟨h1,h2,u,s _ _ e,m⟩,I.par,fun a h=>by
    cases e:H a with
    | none=>exact absurd e (I.ox a h)
    | some u=>rw [s _ _ e]; simp,
   fun b o e n=>s _ _ (I.keep b o e n),fun p hp=>(I.tmp p hp).same s⟩
theorem roots_set_sub (i:Nat):∀ a∈roots (O.set i none),a∈roots O:=fun a h=>by
 rw [mem_roots] at h ⊢
 rcases List.mem_or_eq_of_mem_set h with z | z
 · exact z
 · cases z
theorem nd_set_none:∀ (O:List (Option Addr)) (i:Nat),(roots O).Nodup→(roots (O.set i none)).Nodup
 | [],i,h=>by simpa using h
 | o :: O,0,h=>by
   cases o with
   | none=>simpa [roots] using h
   | some a=>simp only [roots,List.set_cons_zero,List.filterMap_cons,id] at h ⊢; exact (List.nodup_cons.mp h).2
 | o :: O,i+1,h=>by
   have key:=nd_set_none O i
   cases o with
   | none=>simp only [roots,List.set_cons_succ,List.filterMap_cons,id] at h ⊢; exact key h
   | some a =>
     simp only [roots,List.set_cons_succ,List.filterMap_cons,id] at h ⊢
     rw [List.nodup_cons] at h ⊢
     exact ⟨fun z=>h.1 (roots_set_sub i a z),key h.2⟩
theorem av_none_sub (i:Nat):∀ a∈av Z (O.set i none),a∈av Z O:=fun a h=>by
 rcases List.mem_append.mp h with h | h
 · exact List.mem_append_left _ (roots_set_sub i a h)
 · exact List.mem_append_right _ h
theorem get_set {α:Type} {l:List α} {i j:Nat} {x y:α} (h:(l.set i x)[j]?=some y):(j=i∧y=x∧i < l.length)∨(j≠i∧l[j]?=some y):=by
 rw [List.getElem?_set] at h
 by_cases e:i=j
 · rw [if_pos e] at h
   by_cases hl:i < l.length
   · rw [if_pos hl] at h
     exact .inl ⟨e.symm,(Option.some.inj h).symm,hl⟩
   · rw [if_neg hl] at h; cases h
 · rw [if_neg e] at h
   exact .inr ⟨fun z=>e z.symm,h⟩
theorem EnvAt.put (I:EnvAt K Z tm O ρ σ H) {i:Nat} {t:T} {v:V} (hp:∀ p∈Z.P,p.1≠i) (hv:At K H (av Z O) t v):EnvAt K Z tm (O.set i none) (ρ.set i (some (t,false))) (σ.set i (some v)) H:=by
 have fw:∀ {t:T} {v:V},At K H (av Z O) t v→At K H (av Z (O.set i none)) t v:=fun q=>q.fewer (av_none_sub i)
 refine ⟨by simp [I.lσ],by simp [I.lO],fun j e h=>?_,nd_set_none _ _ I.nd,fun a h=>I.own a (roots_set_sub i a h),fun p q=>?_,I.ox,I.keep,fun p q=>fw (I.tmp p q)⟩
 · rcases get_set h with ⟨rfl,rfl,hl⟩ | ⟨ne,h⟩
   · exact ⟨none,some v,by rw [List.getElem?_set_self (by rw [I.lO]; exact hl)],by rw [List.getElem?_set_self (by rw [I.lσ]; exact hl)],rfl,v,rfl,fw hv⟩
   · obtain ⟨o,s,h1,h2,h3⟩:=I.sl j e h
     exact ⟨o,s,by rw [List.getElem?_set_ne (Ne.symm ne)]; exact h1,by rw [List.getElem?_set_ne (Ne.symm ne)]; exact h2,h3.map (fun _ _ q=>fw q) fun _ _ _ q=>q.fewer (av_none_sub i)⟩
 · rw [List.getElem?_set_ne (Ne.symm (hp p q))]; exact I.par p q
theorem EnvAt.forget (I:EnvAt K Z tm O ρ σ H) {i:Nat} (hp:∀ p∈Z.P,p.1≠i):EnvAt K Z tm (O.set i none) (ρ.set i none) σ H:=by
 have fw:∀ {t:T} {v:V},At K H (av Z O) t v→At K H (av Z (O.set i none)) t v:=fun q=>q.fewer (av_none_sub i)
 refine ⟨by simp [I.lσ],by simp [I.lO],fun j e h=>?_,nd_set_none _ _ I.nd,fun a h=>I.own a (roots_set_sub i a h),fun p q=>?_,I.ox,I.keep,fun p q=>fw (I.tmp p q)⟩
 · rcases get_set h with ⟨rfl,rfl,hl⟩ | ⟨ne,h⟩
   · obtain ⟨s,hs⟩:∃ s,σ[j]?=some s:=⟨σ[j]'(by rw [I.lσ]; exact hl),by simp⟩
     exact ⟨none,s,by rw [List.getElem?_set_self (by rw [I.lO]; exact hl)],hs,rfl⟩
   · obtain ⟨o,s,h1,h2,h3⟩:=I.sl j e h
     exact ⟨o,s,by rw [List.getElem?_set_ne (Ne.symm ne)]; exact h1,h2,h3.map (fun _ _ q=>fw q) fun _ _ _ q=>q.fewer (av_none_sub i)⟩
 · rw [List.getElem?_set_ne (Ne.symm (hp p q))]; exact I.par p q
theorem nd_set_some:∀ (O:List (Option Addr)) (i:Nat) (a:Addr),a∉roots O→(roots O).Nodup→(roots (O.set i (some a))).Nodup
 | [],i,a,_,h=>by simpa using h
 | o :: O,0,a,n,h=>by
   cases o with
   | none=>simp only [roots,List.set_cons_zero,List.filterMap_cons,id] at n h ⊢; exact List.nodup_cons.mpr ⟨n,h⟩
   | some b =>
     simp only [roots,List.set_cons_zero,List.filterMap_cons,id] at n h ⊢
     exact List.nodup_cons.mpr ⟨fun z=>n (List.mem_cons_of_mem _ z),(List.nodup_cons.mp h).2⟩
 | o :: O,i+1,a,n,h=>by
   have key:=nd_set_some O i a
   cases o with
   | none=>simp only [roots,List.set_cons_succ,List.filterMap_cons,id] at n h ⊢; exact key n h
   | some b =>
     simp only [roots,List.set_cons_succ,List.filterMap_cons,id] at n h ⊢
     rw [List.nodup_cons] at h ⊢
     refine ⟨fun z=>?_,key (fun z=>n (List.mem_cons_of_mem _ z)) h.2⟩
     have z':some b∈O.set i (some a):=mem_roots.mp z
     rcases List.mem_or_eq_of_mem_set z' with q | q
     · exact h.1 (mem_roots.mpr q)
     · exact n (by rw [Option.some.inj q]; exact List.mem_cons_self)
theorem av_some_sub {a:Addr} (i:Nat):∀ b∈av Z (O.set i (some a)),b∈av (Z.ex a) O:=fun b h=>by
 rcases List.mem_append.mp h with h | h
 · rcases List.mem_or_eq_of_mem_set (mem_roots.mp h) with z | z
   · exact List.mem_append_left _ (mem_roots.mpr z)
   · exact List.mem_append_right _ (by rw [Option.some.inj z]; exact List.mem_cons_self)
 · exact List.mem_append_right _ (List.mem_cons_of_mem _ h)
theorem EnvAt.own' {a:Addr} (I:EnvAt K (Z.ex a) tm O ρ σ H) {i:Nat} {t:T} (hp:∀ p∈Z.P,p.1≠i) (hv:Root K H (av (Z.ex a) O) a t) (h0:Z.H0 a=none) (hx:a∉Z.Ox):EnvAt K Z tm (O.set i (some a)) (ρ.set i (some (t,true))) (σ.set i (some (.ref a))) H:=by
 have sub:=av_some_sub (Z:=Z) (O:=O) (a:=a) i
 have fw:∀ {t:T} {v:V},At K H (av (Z.ex a) O) t v→At K H (av Z (O.set i (some a))) t v:=fun q=>q.fewer sub
 have na:a∉roots O:=fun z=>(I.own a z).2.1 List.mem_cons_self
 refine ⟨by simp [I.lσ],by simp [I.lO],fun j e h=>?_,nd_set_some _ _ _ na I.nd,fun b h=>?_,fun p q=>?_,fun b h=>I.ox b (List.mem_cons_of_mem _ h),I.keep,fun p q=>fw (I.tmp p q)⟩
 · rcases get_set h with ⟨rfl,rfl,hl⟩ | ⟨ne,h⟩
   · exact ⟨some a,some (.ref a),by rw [List.getElem?_set_self (by rw [I.lO]; exact hl)],by rw [List.getElem?_set_self (by rw [I.lσ]; exact hl)],a,rfl,rfl,hv.fewer sub⟩
   · obtain ⟨o,s,h1,h2,h3⟩:=I.sl j e h
     exact ⟨o,s,by rw [List.getElem?_set_ne (Ne.symm ne)]; exact h1,by rw [List.getElem?_set_ne (Ne.symm ne)]; exact h2,h3.map (fun _ _ q=>fw q) fun _ _ _ q=>q.fewer sub⟩
 · rcases List.mem_or_eq_of_mem_set (mem_roots.mp h) with z | z
   · obtain ⟨h1,h2,h3⟩:=I.own b (mem_roots.mpr z)
     exact ⟨h1,fun q=>h2 (List.mem_cons_of_mem _ q),h3⟩
   · cases z
     exact ⟨.inr h0,hx,hv.mut⟩
 · rw [List.getElem?_set_ne (Ne.symm (hp p q))]; exact I.par p q
theorem EnvAt.frz (I:EnvAt K Z tm O ρ σ H) {i:Nat} {t:T} (hp:∀ p∈Z.P,p.1≠i) (hi:ρ[i]?=some (some (t,true))):EnvAt K Z tm (O.set i none) (ρ.set i (some (t,false))) σ H:=by
 have fw:∀ {t:T} {v:V},At K H (av Z O) t v→At K H (av Z (O.set i none)) t v:=fun q=>q.fewer (av_none_sub i)
 obtain ⟨o,s,h1,h2,a,rfl,rfl,hr⟩:=I.sl i _ hi
 have ha:a∈roots O:=mem_roots.mpr (List.mem_of_getElem? h1)
 have na:a∉roots (O.set i none):=fun z=>by
  obtain ⟨j,hj⟩:=List.mem_iff_getElem?.mp (mem_roots.mp z)
  rcases get_set hj with ⟨_,q,_⟩ | ⟨ne,q⟩
  · cases q
  · -- two places of one root
    have key:∀ (O:List (Option Addr)) (i j:Nat),i < j→O[i]?=some (some a)→O[j]?=some (some a)→(roots O).Nodup→False:=by
     intro O
     induction O with
     | nil=>intro i j _ h; simp at h
     | cons o O ih =>
       intro i j hij e1 e2 nd
       cases j with
       | zero=>omega
       | succ j =>
         have e2':O[j]?=some (some a):=by simpa using e2
         cases i with
         | zero =>
           have:o=some a:=by simpa using e1
           subst this
           simp only [roots,List.filterMap_cons,id] at nd
           exact (List.nodup_cons.mp nd).1 (mem_roots.mpr (List.mem_of_getElem? e2'))
         | succ i =>
           refine ih i j (by omega) (by simpa using e1) e2' ?_
           cases o with
           | none=>simpa [roots] using nd
           | some b=>simp only [roots,List.filterMap_cons,id] at nd; exact (List.nodup_cons.mp nd).2
    rcases Nat.lt_or_gt_of_ne ne with l | l
    · exact key O j i l q h1 I.nd
    · exact key O i j l h1 q I.nd
 have nav:a∉av Z (O.set i none):=fun z=>by
  rcases List.mem_append.mp z with z | z
  · exact na z
  · exact (I.own a ha).2.1 z
 refine ⟨by simp [I.lσ],by simp [I.lO],fun j e h=>?_,nd_set_none _ _ I.nd,fun a h=>I.own a (roots_set_sub i a h),fun p q=>?_,I.ox,I.keep,fun p q=>fw (I.tmp p q)⟩
 · rcases get_set h with ⟨rfl,rfl,hl⟩ | ⟨ne,h⟩
   · exact ⟨none,some (.ref a),by rw [List.getElem?_set_self (by rw [I.lO]; exact hl)],h2,rfl,.ref a,rfl,(hr.fewer (av_none_sub j)).at nav⟩
   · obtain ⟨o,s,h1,h2,h3⟩:=I.sl j e h
     exact ⟨o,s,by rw [List.getElem?_set_ne (Ne.symm ne)]; exact h1,h2,h3.map (fun _ _ q=>fw q) fun _ _ _ q=>q.fewer (av_none_sub i)⟩
 · rw [List.getElem?_set_ne (Ne.symm (hp p q))]; exact I.par p q
theorem EnvAt.wrote (I:EnvAt K Z tm O ρ σ H) {i:Nat} {t t':T} {a:Addr} {u:HO} (hi:ρ[i]?=some (some (t,true))) (hO:O[i]?=some (some a)) (hr:Root K (upd H a u) (av Z O) a t'):EnvAt K Z tm O (ρ.set i (some (t',true))) σ (upd H a u):=by
 have ha:a∈roots O:=mem_roots.mpr (List.mem_of_getElem? hO)
 have hav:a∈av Z O:=List.mem_append_left _ ha
 obtain ⟨hP,hx,u0,e0,m0⟩:=I.own a ha
 have inj:∀ j b,j≠i→O[j]?=some (some b)→b≠a:=by
  intro j b ne hj e
  subst e
  have key:∀ (O:List (Option Addr)) (i j:Nat),i < j→O[i]?=some (some b)→O[j]?=some (some b)→(roots O).Nodup→False:=by
   intro O
   induction O with
   | nil=>intro i j _ h; simp at h
   | cons o O ih =>
     intro i j hij e1 e2 nd
     cases j with
     | zero=>omega
     | succ j =>
       have e2':O[j]?=some (some b):=by simpa using e2
       cases i with
       | zero =>
         have:o=some b:=by simpa using e1
         subst this
         simp only [roots,List.filterMap_cons,id] at nd
         exact (List.nodup_cons.mp nd).1 (mem_roots.mpr (List.mem_of_getElem? e2'))
       | succ i =>
         refine ih i j (by omega) (by simpa using e1) e2' ?_
         cases o with
         | none=>simpa [roots] using nd
         | some c=>simp only [roots,List.filterMap_cons,id] at nd; exact (List.nodup_cons.mp nd).2
  rcases Nat.lt_or_gt_of_ne ne with l | l
  · exact key O j i l hj hO I.nd
  · exact key O i j l hO hj I.nd
 refine ⟨by simp [I.lσ],by simp [I.lO],fun j e h=>?_,I.nd,fun b h=>?_,I.par,fun b h=>?_,fun b o e n=>?_,fun p q=>(I.tmp p q).wrote hav e0 m0⟩
 · rcases get_set h with ⟨rfl,rfl,hl⟩ | ⟨ne,h⟩
   · obtain ⟨o,s,h1,h2,a',h4,h5,h6⟩:=I.sl j _ hi
     rw [hO] at h1
     cases h1
     cases h4
     exact ⟨_,s,hO,h2,a,rfl,h5,hr⟩
   · obtain ⟨o,s,h1,h2,h3⟩:=I.sl j e h
     refine ⟨o,s,h1,h2,h3.map (fun _ _ q=>q.wrote hav e0 m0) fun b t e q=>?_⟩
     subst e
     exact q.map (upd_ne (inj j b ne h1)) fun _ _ z=>z.wrote hav e0 m0
 · obtain ⟨h1,h2,v,e,m⟩:=I.own b h
   by_cases hb:b=a
   · subst hb; exact ⟨h1,h2,hr.mut⟩
   · exact ⟨h1,h2,v,by rw [upd_ne hb]; exact e,m⟩
 · by_cases hb:b=a
   · subst hb; exact absurd h hx
   · rw [upd_ne hb]; exact I.ox b h
 · by_cases hb:b=a
   · subst hb
     rcases hP with q | q
     · exact absurd q n
     · rw [q] at e; cases e
   · rw [upd_ne hb]; exact I.keep b o e n
theorem EnvAt.fresh (I:EnvAt K Z tm O ρ σ H) {a:Addr} (h:H a=none):a∉av Z O∧a∉Z.Ox∧Z.H0 a=none:=by
 refine ⟨fun z=>I.avH a z h,fun z=>I.ox a z h,?_⟩
 cases e:Z.H0 a with
 | none=>rfl
 | some o =>
   by_cases hp:a∈Z.P.map (·.2)
   · obtain ⟨p,hp',rfl⟩:=List.mem_map.mp hp
     obtain ⟨_,_,u,e',_⟩:=I.own p.2 (mem_roots.mpr (List.mem_of_getElem? (I.par p hp')))
     rw [h] at e'; cases e'
   · rw [I.keep a o e hp] at h; cases h
theorem av_ex_sub {a:Addr}:∀ b∈av (Z.ex a) O,b∈av Z O∨b=a:=fun b h=>by
 rcases List.mem_append.mp h with h | h
 · exact .inl (List.mem_append_left _ h)
 · rcases List.mem_cons.mp h with h | h
   · exact .inr h
   · exact .inl (List.mem_append_right _ h)
theorem sub_av_ex {a:Addr}:∀ b∈av Z O,b∈av (Z.ex a) O:=fun b h=>by
 rcases List.mem_append.mp h with h | h
 · exact List.mem_append_left _ h
 · exact List.mem_append_right _ (List.mem_cons_of_mem _ h)
theorem EnvAt.new (I:EnvAt K Z tm O ρ σ H) {a:Addr} {u:HO} (h:H a=none) (hu:mutO u=true):EnvAt K (Z.ex a) tm O ρ σ (upd H a u):=by
 have s:Same H (upd H a u):=same_upd h
 have J:=I.same s
 obtain ⟨n1,n2,n3⟩:=I.fresh h
 have mr:∀ b∈av (Z.ex a) O,b∈av Z O∨H b=none:=fun b hb=>(av_ex_sub b hb).imp id fun e=>by rw [e]; exact h
 have fw:∀ {t:T} {v:V},At K H (av Z O) t v→At K (upd H a u) (av (Z.ex a) O) t v:=fun q=>(q.more mr).same s
 refine ⟨J.lσ,J.lO,fun i e hi=>?_,J.nd,fun b hb=>?_,J.par,fun b hb=>?_,J.keep,fun p hp=>fw (I.tmp p hp)⟩
 · obtain ⟨o,w,h1,h2,h3⟩:=I.sl i e hi
   refine ⟨o,w,h1,h2,h3.map (fun _ _ q=>fw q) fun b t eo q=>?_⟩
   refine Root.same (q.map rfl fun _ _ z=>z.more mr) s
 · obtain ⟨q1,q2,q3⟩:=J.own b hb
   refine ⟨q1,fun z=>?_,q3⟩
   rcases List.mem_cons.mp z with z | z
   · exact n1 (by rw [← z]; exact List.mem_append_left _ hb)
   · exact q2 z
 · rcases List.mem_cons.mp hb with z | z
   · rw [z,upd_same]; simp
   · exact J.ox b z
theorem EnvAt.unex {a:Addr} (I:EnvAt K (Z.ex a) tm O ρ σ H):EnvAt K Z tm O ρ σ H :=
 ⟨I.lσ,I.lO,fun i e h=>let ⟨o,w,h1,h2,h3⟩:=I.sl i e h; ⟨o,w,h1,h2,h3.map (fun _ _ q=>q.fewer sub_av_ex) fun _ _ _ q=>q.fewer sub_av_ex⟩,I.nd,
   fun b h=>let ⟨q1,q2,q3⟩:=I.own b h; ⟨q1,fun z=>q2 (List.mem_cons_of_mem _ z),q3⟩,I.par,fun b h=>I.ox b (List.mem_cons_of_mem _ h),I.keep,fun p hp=>(I.tmp p hp).fewer sub_av_ex⟩
end
end VT
namespace VT
open PySem PySem.Spec PyProof.Rows L2
inductive Rt where
 | vw (t:T)
 | fr (t:T)
noncomputable def Rt.t:Rt→T
 | .vw t=>t
 | .fr t=>t
noncomputable def AtR (K:PySem.W.Frag) (H:Hp) (A:List Addr) (t:T) (v:V):Prop:=At K H A t v∨∃ a,v = .ref a∧Root K H A a t
noncomputable def RetX (K:PySem.W.Frag) (Z:Zc) (tm:List (T×V)) (O:List (Option Addr)) (ρ:En) (σ:St) (H:Hp):Rt→V→Prop
 | .vw t,v=>EnvAt K Z tm O ρ σ H∧At K H (av Z O) t v
 | .fr t,v=>∃ a,v = .ref a∧EnvAt K (Z.ex a) tm O ρ σ H∧Root K H (av (Z.ex a) O) a t∧Z.H0 a=none∧a∉Z.Ox
noncomputable abbrev FE:=En→(T→Prop)→Prop
noncomputable abbrev FP:=En→(Rt→Prop)→Prop
noncomputable abbrev FX:=En→(En→Rt→Prop)→Prop
noncomputable abbrev FB:=En→(Bool→Prop)→Prop
noncomputable abbrev FA:=En→(List T→Prop)→Prop
section
variable {K:PySem.W.Frag} {Z:Zc} {tm:List (T×V)} {O:List (Option Addr)} {ρ:En} {σ:St} {H H':Hp} {A:List Addr}
theorem AtR.same {t:T} {v:V} (s:Same H H') (h:AtR K H A t v):AtR K H' A t v:=h.imp (fun q=>q.same s) fun ⟨a,e,q⟩=>⟨a,e,q.same s⟩
theorem AtR.lst {ts:List T} {v:V} (h:AtR K H A (.lst ts) v):∃ a vs,v = .ref a∧SqL K H a vs∧AtL K H A ts vs:=by
 rcases h with h | ⟨a,rfl,vs,e,q⟩
 · simp only [At] at h
   obtain ⟨a,vs,rfl,l,q⟩:=h
   exact ⟨a,vs,rfl,l.sq,q⟩
 · exact ⟨a,vs,rfl,SqL.of e,q⟩
theorem AtR.tup {ts:List T} {v:V} (h:AtR K H A (.tup ts) v):∃ a vs,v = .ref a∧SqT K H a vs∧AtL K H A ts vs:=by
 rcases h with h | ⟨a,rfl,q⟩
 · simpa only [At] using h
 · exact q.elim
theorem AtR.dk {ks:List Key} {ts:List T} {v:V} (h:AtR K H A (.dk ks ts) v):∃ a vs,v = .ref a∧ks.length=vs.length∧H a=some (.dK (ks.zip vs))∧AtL K H A ts vs:=by
 rcases h with h | ⟨a,rfl,vs,l,e,q⟩
 · simp only [At] at h
   obtain ⟨a,vs,rfl,l,d,q⟩:=h
   exact ⟨a,vs,rfl,l,d.1,q⟩
 · exact ⟨a,vs,rfl,l,e,q⟩
theorem AtR.dt {ks:List (List Key)} {ts:List T} {v:V} (h:AtR K H A (.dt ks ts) v):∃ a vs,v = .ref a∧ks.length=vs.length∧H a=some (.dT (ks.zip vs))∧AtL K H A ts vs:=by
 rcases h with h | ⟨a,rfl,vs,l,e,q⟩
 · simp only [At] at h
   obtain ⟨a,vs,rfl,l,d,q⟩:=h
   exact ⟨a,vs,rfl,l,d.1,q⟩
 · exact ⟨a,vs,rfl,l,e,q⟩
theorem AtR.df {o:Obj} {ks:List (List Key)} {ts:List T} {v:V} (h:AtR K H A (.df o ks ts) v):∃ a vs,v = .ref a∧ks.length=vs.length∧H a=some (.frz o (.dT (ks.zip vs)))∧AtL K H A ts vs:=by
 rcases h with h | ⟨a,rfl,q⟩
 · simp only [At] at h
   obtain ⟨a,vs,rfl,l,d,q⟩:=h
   exact ⟨a,vs,rfl,l,d.1,q⟩
 · exact q.elim
theorem AtR.dz {o:Obj} {ks:List Key} {ts:List T} {v:V} (h:AtR K H A (.dz o ks ts) v):∃ a vs,v = .ref a∧ks.length=vs.length∧H a=some (.frz o (.dK (ks.zip vs)))∧AtL K H A ts vs:=by
 rcases h with h | ⟨a,rfl,q⟩
 · simp only [At] at h
   obtain ⟨a,vs,rfl,l,d,q⟩:=h
   exact ⟨a,vs,rfl,l,d.1,q⟩
 · exact q.elim
theorem AtR.kt {k:List Key} {v:V} (h:AtR K H A (.kt k) v):∃ a,v = .ref a∧H a=some (.tup (k.map kV)):=by
 rcases h with h | ⟨a,rfl,q⟩
 · simp only [At] at h
   obtain ⟨a,rfl,d⟩:=h
   exact ⟨a,rfl,d.1⟩
 · exact q.elim
theorem AtR.ins {C:Addr} {ns:List Str} {ts:List T} {v:V} (h:AtR K H A (.ins C ns ts) v):∃ a dx vs,v = .ref a∧ns.length=vs.length∧H a=some (.ins C dx (ns.zip vs))∧AtL K H A ts vs:=by
 rcases h with h | ⟨a,rfl,dx,vs,l,e,q⟩
 · simp only [At] at h
   obtain ⟨a,dx,vs,rfl,l,d,q⟩:=h
   exact ⟨a,dx,vs,rfl,l,d.1,q⟩
 · exact ⟨a,dx,vs,rfl,l,e,q⟩
theorem AtR.int {i:Int} {v:V} (h:AtR K H A (.int i) v):v = .int i:=h.elim (fun q=>by simpa only [At] using q) fun ⟨_,_,q⟩=>q.elim
theorem AtR.str {i:Str} {v:V} (h:AtR K H A (.str i) v):v = .str i:=h.elim (fun q=>by simpa only [At] using q) fun ⟨_,_,q⟩=>q.elim
theorem AtR.bl {i:Bool} {v:V} (h:AtR K H A (.bl i) v):v = .bl i:=h.elim (fun q=>by simpa only [At] using q) fun ⟨_,_,q⟩=>q.elim
theorem AtR.non {v:V} (h:AtR K H A .non v):v = .non:=h.elim (fun q=>by simpa only [At] using q) fun ⟨_,_,q⟩=>q.elim
theorem AtR.ob {a:Addr} {v:V} (h:AtR K H A (.ob a) v):v = .ref a:=h.elim (fun q=>by simpa only [At] using q) fun ⟨_,_,q⟩=>q.elim
theorem at_int {i:Int}:At K H A (.int i) (.int i):=by simp only [At]
theorem at_str {i:Str}:At K H A (.str i) (.str i):=by simp only [At]
theorem at_bl {i:Bool}:At K H A (.bl i) (.bl i):=by simp only [At]
theorem at_non:At K H A .non .non:=by simp only [At]
theorem at_tup {ts:List T} {a:Addr} {vs:List V} (h:SqT K H a vs) (q:AtL K H A ts vs):At K H A (.tup ts) (.ref a):=by simp only [At]; exact ⟨a,vs,rfl,h,q⟩
theorem RetX.env {r:Rt} {v:V} (h:RetX K Z tm O ρ σ H r v):EnvAt K Z tm O ρ σ H:=by
 cases r with
 | vw t=>exact h.1
 | fr t=>obtain ⟨a,_,I,_⟩:=h; exact I.unex
theorem RetX.at {r:Rt} {v:V} (h:RetX K Z tm O ρ σ H r v):At K H (av Z O) r.t v:=by
 cases r with
 | vw t=>exact h.2
 | fr t =>
   obtain ⟨a,rfl,I,q,_,hx⟩:=h
   refine (q.fewer sub_av_ex).at fun z=>?_
   rcases List.mem_append.mp z with z | z
   · exact (I.own a z).2.1 List.mem_cons_self
   · exact hx z
theorem EnvAt.newL (I:EnvAt K Z tm O ρ σ H) {a:Addr} {ts:List T} {vs:List V} (h:H a=none) (q:AtL K H (av Z O) ts vs):RetX K Z tm O ρ σ (upd H a (.lst vs)) (.fr (.lst ts)) (.ref a):=by
 obtain ⟨n1,n2,n3⟩:=I.fresh h
 exact ⟨a,rfl,I.new h rfl,⟨vs,upd_same,(q.more fun b hb=>(av_ex_sub b hb).imp id fun e=>by rw [e]; exact h).same (same_upd h)⟩,n3,n2⟩
theorem EnvAt.newD (I:EnvAt K Z tm O ρ σ H) {a:Addr} {ks:List Key} {ts:List T} {vs:List V} (h:H a=none) (hl:ks.length=vs.length) (q:AtL K H (av Z O) ts vs):RetX K Z tm O ρ σ (upd H a (.dK (ks.zip vs))) (.fr (.dk ks ts)) (.ref a):=by
 obtain ⟨n1,n2,n3⟩:=I.fresh h
 exact ⟨a,rfl,I.new h rfl,⟨vs,hl,upd_same,(q.more fun b hb=>(av_ex_sub b hb).imp id fun e=>by rw [e]; exact h).same (same_upd h)⟩,n3,n2⟩
end
structure Bx (p:List (T×V)→Prop):Prop where
 h:∀ tm,p tm
section
variable (X:Cx) (Z:Zc)
noncomputable def lR (tm:List (T×V)) (f:FE):TE:=fun σ H Q=>∃ ρ O q,EnvAt X.K Z tm O ρ σ H∧f ρ q∧∀ t,q t→∀ v H',Same H H'→AtR X.K H' (av Z O) t v→Q v H'
noncomputable def lE (tm:List (T×V)) (f:FE):TE:=fun σ H Q=>∃ ρ O q,EnvAt X.K Z tm O ρ σ H∧f ρ q∧∀ t,q t→∀ v H',Same H H'→At X.K H' (av Z O) t v→Q v H'
noncomputable def lP (tm:List (T×V)) (f:FP):TE:=fun σ H Q=>∃ ρ O q,EnvAt X.K Z tm O ρ σ H∧f ρ q∧∀ r,q r→∀ v H',Same H H'→RetX X.K Z tm O ρ σ H' r v→Q v H'
noncomputable def lX (tm:List (T×V)) (f:FX):TE:=fun σ H Q=>∃ ρ O q,EnvAt X.K Z tm O ρ σ H∧f ρ q∧∀ ρ' r,q ρ' r→∀ O' v H',RetX X.K Z tm O' ρ' σ H' r v→Q v H'
noncomputable def lB (tm:List (T×V)) (f:FB):TT:=fun σ H Q=>∃ ρ O q,EnvAt X.K Z tm O ρ σ H∧f ρ q∧∀ b,q b→∀ H',Same H H'→Q b H'
noncomputable def lA (tm:List (T×V)) (f:FA):TA:=fun σ H Q=>∃ ρ O q,EnvAt X.K Z tm O ρ σ H∧f ρ q∧∀ ts,q ts→∀ vs H',Same H H'→AtL X.K H' (av Z O) ts vs→Q vs H'
noncomputable def lAR (tm:List (T×V)) (f:FA):TA:=fun σ H Q=>∃ ρ O q,EnvAt X.K Z tm O ρ σ H∧f ρ q∧∀ ts,q ts→∀ vs H',Same H H'→Paired (fun v t=>AtR X.K H' (av Z O) t v) vs ts→Q vs H'
noncomputable def VR (e:Expr) (f:FE):Prop:=Bx fun tm=>PE X e (lR X Z tm f)
noncomputable instance {e:Expr} {f:FE}:CoeFun (VR X Z e f) fun _=>∀ tm,PE X e (lR X Z tm f):=⟨fun h=>Bx.h h⟩
noncomputable def VE (e:Expr) (f:FE):Prop:=Bx fun tm=>PE X e (lE X Z tm f)
noncomputable instance {e:Expr} {f:FE}:CoeFun (VE X Z e f) fun _=>∀ tm,PE X e (lE X Z tm f):=⟨fun h=>Bx.h h⟩
noncomputable def VP (e:Expr) (f:FP):Prop:=Bx fun tm=>PE X e (lP X Z tm f)
noncomputable instance {e:Expr} {f:FP}:CoeFun (VP X Z e f) fun _=>∀ tm,PE X e (lP X Z tm f):=⟨fun h=>Bx.h h⟩
noncomputable def VX (e:Expr) (f:FX):Prop:=Bx fun tm=>PE X e (lX X Z tm f)
noncomputable instance {e:Expr} {f:FX}:CoeFun (VX X Z e f) fun _=>∀ tm,PE X e (lX X Z tm f):=⟨fun h=>Bx.h h⟩
noncomputable def VC (e:Expr) (f:FB):Prop:=Bx fun tm=>PT X e (lB X Z tm f)
noncomputable instance {e:Expr} {f:FB}:CoeFun (VC X Z e f) fun _=>∀ tm,PT X e (lB X Z tm f):=⟨fun h=>Bx.h h⟩
noncomputable def VW (e:Expr) (f:FB):Prop:=Bx fun tm=>PW X e (lB X Z tm f)
noncomputable instance {e:Expr} {f:FB}:CoeFun (VW X Z e f) fun _=>∀ tm,PW X e (lB X Z tm f):=⟨fun h=>Bx.h h⟩
noncomputable def VA (es:List Expr) (f:FA):Prop:=Bx fun tm=>PA X es (lA X Z tm f)
noncomputable instance {es:List Expr} {f:FA}:CoeFun (VA X Z es f) fun _=>∀ tm,PA X es (lA X Z tm f):=⟨fun h=>Bx.h h⟩
noncomputable def VAR (es:List Expr) (f:FA):Prop:=Bx fun tm=>PA X es (lAR X Z tm f)
noncomputable instance {es:List Expr} {f:FA}:CoeFun (VAR X Z es f) fun _=>∀ tm,PA X es (lAR X Z tm f):=⟨fun h=>Bx.h h⟩
end
theorem PE.weak {X:Cx} {e:Expr} {t t':TE} (h:PE X e t) (hw:∀ σ H Q,t' σ H Q→t σ H Q):PE X e t':=fun pins s σ H Q I q=>h pins s σ H Q I (hw _ _ _ q)
theorem PT.weak {X:Cx} {e:Expr} {t t':TT} (h:PT X e t) (hw:∀ σ H Q,t' σ H Q→t σ H Q):PT X e t':=fun pins s σ H Q I q=>h pins s σ H Q I (hw _ _ _ q)
theorem PW.weak {X:Cx} {e:Expr} {t t':TT} (h:PW X e t) (hw:∀ σ H Q,t' σ H Q→t σ H Q):PW X e t':=fun wh pins s σ H Q I q=>h wh pins s σ H Q I (hw _ _ _ q)
theorem PA.weak {X:Cx} {e:List Expr} {t t':TA} (h:PA X e t) (hw:∀ σ H Q,t' σ H Q→t σ H Q):PA X e t':=fun pos pins s σ H Q I q=>h pos pins s σ H Q I (hw _ _ _ q)
theorem PS.weak {X:Cx} {b:Stmt} {t t':TS} (h:PS X b t) (hw:∀ D σ H,t' D σ H→t D σ H):PS X b t':=fun pins s σ H D I q=>h pins s σ H D I (hw D σ H q)
theorem PSs.weak' {X:Cx} {b:List Stmt} {t t':TS} (h:PSs X b t) (hw:∀ D σ H,t' D σ H→t D σ H):PSs X b t':=fun pins s σ H D I q=>h pins s σ H D I (hw D σ H q)
section
variable {X:Cx} {Z:Zc} {e a b:Expr} {es:List Expr} {pos:Pos}
theorem VE.vr {f:FE} (h:VE X Z e f):VR X Z e f:=.mk fun tm=>PE.weak (h tm) fun σ H Q ⟨ρ,O,q,I,hf,k⟩=>⟨ρ,O,q,I,hf,fun t ht v H' s z=>k t ht v H' s (.inl z)⟩
noncomputable def fT (f:FP):FE:=fun ρ Q=>f ρ fun r=>Q r.t
noncomputable def fV (f:FE):FP:=fun ρ Q=>f ρ fun t=>Q (.vw t)
noncomputable def fX (f:FP):FX:=fun ρ Q=>f ρ fun r=>Q ρ r
theorem VP.ve {f:FP} (h:VP X Z e f):VE X Z e (fT f):=.mk fun tm=>PE.weak (h tm) fun σ H Q ⟨ρ,O,q,I,hf,k⟩=>⟨ρ,O,fun r=>q r.t,I,hf,fun r hr v H' s z=>k r.t hr v H' s z.at⟩
theorem VP.vr {f:FP} (h:VP X Z e f):VR X Z e (fT f):=h.ve.vr
theorem VP.vx {f:FP} (h:VP X Z e f):VX X Z e (fX f):=.mk fun tm=>PE.weak (h tm) fun σ H Q ⟨ρ,O,q,I,hf,k⟩=>⟨ρ,O,fun r=>q ρ r,I,hf,fun r hr v H' s z=>k ρ r hr O v H' z⟩
theorem VE.vp {f:FE} (h:VE X Z e f):VP X Z e (fV f):=.mk fun tm=>PE.weak (h tm) fun σ H Q ⟨ρ,O,q,I,hf,k⟩=>⟨ρ,O,fun t=>q (.vw t),I,hf,fun t hr v H' s z=>k (.vw t) hr v H' s ⟨I.same s,z⟩⟩
noncomputable def fVar (i:Nat):FE:=fun ρ Q=>match ρ[i]? with
 | some (some (t,false))=>Q t
 | _=>False
noncomputable def fVarR (i:Nat):FE:=fun ρ Q=>match ρ[i]? with
 | some (some (t,_))=>Q t
 | _=>False
theorem ve_var (i:Nat) {x:Str} (hN:X.N[i]?=some x:=by rfl) (hv:Vis X.env.scope x:=by first | exact Or.inl rfl | exact Or.inr (Or.inl rfl) | exact Or.inr (Or.inr rfl)) (hd:(x == ("__debug__" : Str))=false:=by decide)
  (hcd:(x == ("__classdict__" : Str))=false:=by decide):VE X Z (.Name x pos) (fVar i):=.mk fun tm=>PE.weak (pe_var hN hv hd hcd) fun σ H Q ⟨ρ,O,q,I,hf,k⟩=>by
 unfold fVar at hf
 split at hf
 · rename_i t e
   obtain ⟨o,s,h1,h2,rfl,v,rfl,h3⟩:=I.sl i _ e
   exact ⟨v,h2,k t hf v H (Same.refl H) h3⟩
 · exact hf.elim
theorem vr_var (i:Nat) {x:Str} (hN:X.N[i]?=some x:=by rfl) (hv:Vis X.env.scope x:=by first | exact Or.inl rfl | exact Or.inr (Or.inl rfl) | exact Or.inr (Or.inr rfl)) (hd:(x == ("__debug__" : Str))=false:=by decide)
  (hcd:(x == ("__classdict__" : Str))=false:=by decide):VR X Z (.Name x pos) (fVarR i):=.mk fun tm=>PE.weak (pe_var hN hv hd hcd) fun σ H Q ⟨ρ,O,q,I,hf,k⟩=>by
 unfold fVarR at hf
 split at hf
 · rename_i t b e
   obtain ⟨o,s,h1,h2,h3⟩:=I.sl i _ e
   cases b with
   | false=>obtain ⟨rfl,v,rfl,h3⟩:=h3; exact ⟨v,h2,k t hf v H (Same.refl H) (.inl h3)⟩
   | true=>obtain ⟨a,rfl,rfl,h3⟩:=h3; exact ⟨_,h2,k t hf _ H (Same.refl H) (.inr ⟨a,rfl,h3⟩)⟩
 · exact hf.elim
noncomputable def fC (t:T):FP:=fun _ Q=>Q (.vw t)
theorem vp_C {t:T} {v:V} (h:PE X e (tC v)) (ht:∀ H A,At X.K H A t v):VP X Z e (fC t):=.mk fun tm=>PE.weak h fun σ H Q ⟨ρ,O,q,I,hf,k⟩=>k _ hf v H (Same.refl H) ⟨I,ht _ _⟩
theorem vp_int {i j pos}:VP X Z (.Constant (.int i) j pos) (fC (.int i)):=vp_C pe_int fun _ _=>at_int
theorem vp_bl {i j pos}:VP X Z (.Constant (.bool i) j pos) (fC (.bl i)):=vp_C pe_bl fun _ _=>at_bl
theorem vp_str {i j pos}:VP X Z (.Constant (.str i) j pos) (fC (.str i)):=vp_C pe_str fun _ _=>at_str
theorem vp_non {j pos}:VP X Z (.Constant .none j pos) (fC .non):=vp_C pe_non fun _ _=>at_non
theorem vp_glob {x:Str} {t:T} {v:V} {u:Value} (hg:Gl X x) (hm:X.mg x=some u) (r:RelV v u) (ht:∀ H A,At X.K H A t v) (hd:(x == ("__debug__" : Str))=false:=by decide):VP X Z (.Name x pos) (fC t):=vp_C (pe_glob hg hm r hd) ht
noncomputable def OpT (K:PySem.W.Frag) (r:R2) (p:T→T→(Rt→Prop)→Prop):Prop :=
 ∀ (Z:Zc) (tm:List (T×V)) (O:List (Option Addr)) (ρ:En) (σ:St) (H:Hp) (x y:T) (v w:V) (q:Rt→Prop) (Q:VK),EnvAt K Z tm O ρ σ H→AtR K H (av Z O) x v→AtR K H (av Z O) y w→p x y q →
  (∀ t,q t→∀ u H',Same H H'→RetX K Z tm O ρ σ H' t u→Q u H')→r v w H Q
noncomputable def f2 (fa fb:FE) (p:T→T→(Rt→Prop)→Prop):FP:=fun ρ Q=>fa ρ fun x=>fb ρ fun y=>p x y Q
theorem two {r:R2} {fa fb:FE} {p:T→T→(Rt→Prop)→Prop} (ho:OpT X.K r p) {tm:List (T×V)}:∀ σ H Q,lP X Z tm (f2 fa fb p) σ H Q→tOp r (lR X Z tm fa) (lR X Z tm fb) σ H Q:=fun σ H Q ⟨ρ,O,q,I,hf,k⟩ =>
 ⟨ρ,O,fun x=>fb ρ fun y=>p x y q,I,hf,fun x hx v H1 s1 a1=>⟨ρ,O,fun y=>p x y q,I.same s1,hx,fun y hy w H2 s2 a2 =>
   ho Z tm O ρ σ H2 x y v w q Q ((I.same s1).same s2) (a1.same s2) a2 hy fun t ht u H' s a=>k t ht u H' ((s1.trans s2).trans s) a⟩⟩
theorem vp_bin {op:Operator} {r:R2} {fa fb:FE} {p:T→T→(Rt→Prop)→Prop} (h:OpR X (binaryOp op) r) (ho:OpT X.K r p) (ha:VR X Z a fa) (hb:VR X Z b fb):VP X Z (.BinOp a op b pos) (f2 fa fb p) :=
 .mk fun tm=>PE.weak (pe_op h (ha tm) (hb tm)) (two ho)
theorem vp_cmp {op:CmpOp} {r:R2} {fa fb:FE} {p:T→T→(Rt→Prop)→Prop} (h:OpR X (compareOp op) r) (ho:OpT X.K r p) (ha:VR X Z a fa) (hb:VR X Z b fb) (hm:behindInMarks op b=false):VP X Z (.Compare a [op] [b] pos) (f2 fa fb p) :=
 .mk fun tm=>PE.weak (pe_cmpR h (ha tm) (hb tm) hm) (two ho)
noncomputable def fTst (f:FP):FB:=fun ρ Q=>f ρ fun r=>match r with
 | .vw (.bl c)=>Q c
 | _=>False
theorem tst_ok {r:Rt} {Q:Bool→Prop} (h:match r with | .vw (.bl c)=>Q c | _=>False):∃ c,r = .vw (.bl c)∧Q c:=by
 split at h
 · exact ⟨_,rfl,h⟩
 · exact h.elim
theorem vc_cmp {op:CmpOp} {r:R2} {fa fb:FE} {p:T→T→(Rt→Prop)→Prop} (h:OpR X (compareOp op) r) (ho:OpT X.K r p) (ha:VR X Z a fa) (hb:VR X Z b fb) (hm:behindInMarks op b=false):VC X Z (.Compare a [op] [b] pos) (fTst (f2 fa fb p)) :=
 .mk fun tm=>PT.weak (pt_cmpR h (ha tm) (hb tm) hm) fun σ H Q ⟨ρ,O,q,I,hf,k⟩=>two ho σ H _ ⟨ρ,O,_,I,hf,fun t ht u H' s a=>by
  obtain ⟨c,rfl,hc⟩:=tst_ok ht
  have e:=a.2
  simp only [At] at e
  exact ⟨c,e,k c hc H' s⟩⟩
theorem vc_val {f:FP} (h:VP X Z e f) (he:∀ whole,isTrue e X.env whole=(do let v ← whole; standAt e.pos; holding [v] (truthy v)):=by intro _; rfl):VC X Z e (fTst f) :=
 .mk fun tm=>PT.weak (pt_val (h tm) he) fun σ H Q ⟨ρ,O,q,I,hf,k⟩=>⟨ρ,O,_,I,hf,fun t ht u H' s a=>by
  obtain ⟨c,rfl,hc⟩:=tst_ok ht
  have e:=a.2
  simp only [At] at e
  exact ⟨c,e,k c hc H' s⟩⟩
noncomputable def fAnd (f g:FB):FB:=fun ρ Q=>f ρ fun c=>if c=true then g ρ Q else Q false
noncomputable def fNot (f:FB):FB:=fun ρ Q=>f ρ fun c=>Q (!c)
theorem VW.vc {f:FB} (h:VW X Z e f):VC X Z e f:=.mk fun tm=>PW.pt (h tm)
theorem vw_and1 {f:FB} (h:VC X Z a f):VW X Z (.BoolOp .And [a] pos) f:=.mk fun tm=>pw_and1 (h tm)
theorem vw_and {rest:List Expr} {f g:FB} (h:VC X Z a f) (h':VW X Z (.BoolOp .And (b :: rest) pos) g):VW X Z (.BoolOp .And (a :: b :: rest) pos) (fAnd f g) :=
 .mk fun tm=>PW.weak (pw_and (h tm) (h' tm)) fun σ H Q ⟨ρ,O,q,I,hf,k⟩=>⟨ρ,O,_,I,hf,fun c hc H1 s1=>by
  cases c with
  | true=>rw [if_pos rfl] at hc ⊢; exact ⟨ρ,O,q,I.same s1,hc,fun b hb H' s=>k b hb H' (s1.trans s)⟩
  | false=>rw [if_neg Bool.false_ne_true] at hc ⊢; exact k false hc H1 s1⟩
theorem vc_not {f:FB} (h:VC X Z a f):VC X Z (.UnaryOp .Not a pos) (fNot f) :=
 .mk fun tm=>PT.weak (pt_not (h tm)) fun σ H Q ⟨ρ,O,q,I,hf,k⟩=>⟨ρ,O,_,I,hf,fun c hc H1 s1=>k _ hc H1 s1⟩
noncomputable def fAndV (f g:FP):FP:=fun ρ Q=>f ρ fun r=>match r with
 | .vw (.bl true)=>g ρ Q
 | .vw (.bl false)=>Q (.vw (.bl false))
 | _=>False
noncomputable def fOrV (f g:FP):FP:=fun ρ Q=>f ρ fun r=>match r with
 | .vw (.bl true)=>Q (.vw (.bl true))
 | .vw (.bl false)=>g ρ Q
 | _=>False
noncomputable def fNotV (f:FP):FP:=fun ρ Q=>f ρ fun r=>match r with
 | .vw (.bl c)=>Q (.vw (.bl (!c)))
 | _=>False
theorem vp_one {op} {f:FP} (h:VP X Z a f):VP X Z (.BoolOp op [a] pos) f:=.mk fun tm=>pe_one (h tm)
theorem vp_and {rest:List Expr} {f g:FP} (h:VP X Z a f) (h':VP X Z (.BoolOp .And (b :: rest) pos) g):VP X Z (.BoolOp .And (a :: b :: rest) pos) (fAndV f g) :=
 .mk fun tm=>PE.weak (pe_and (h tm) (h' tm)) fun σ H Q ⟨ρ,O,q,I,hf,k⟩=>⟨ρ,O,_,I,hf,fun r hr v H1 s1 z=>by
  split at hr
  · have e:=z.2; simp only [At] at e
    exact ⟨true,e,by rw [if_pos rfl]; exact ⟨ρ,O,q,I.same s1,hr,fun b hb v H' s=>k b hb v H' (s1.trans s)⟩⟩
  · have e:=z.2; simp only [At] at e
    exact ⟨false,e,by rw [if_neg Bool.false_ne_true]; exact k _ hr _ H1 s1 ⟨I.same s1,at_bl⟩⟩
  · exact hr.elim⟩
theorem vp_or {rest:List Expr} {f g:FP} (h:VP X Z a f) (h':VP X Z (.BoolOp .Or (b :: rest) pos) g):VP X Z (.BoolOp .Or (a :: b :: rest) pos) (fOrV f g) :=
 .mk fun tm=>PE.weak (pe_or (h tm) (h' tm)) fun σ H Q ⟨ρ,O,q,I,hf,k⟩=>⟨ρ,O,_,I,hf,fun r hr v H1 s1 z=>by
  split at hr
  · have e:=z.2; simp only [At] at e
    exact ⟨true,e,by rw [if_pos rfl]; exact k _ hr _ H1 s1 ⟨I.same s1,at_bl⟩⟩
  · have e:=z.2; simp only [At] at e
    exact ⟨false,e,by rw [if_neg Bool.false_ne_true]; exact ⟨ρ,O,q,I.same s1,hr,fun b hb v H' s=>k b hb v H' (s1.trans s)⟩⟩
  · exact hr.elim⟩
theorem vp_not {f:FP} (h:VP X Z a f):VP X Z (.UnaryOp .Not a pos) (fNotV f) :=
 .mk fun tm=>PE.weak (pe_not (h tm)) fun σ H Q ⟨ρ,O,q,I,hf,k⟩=>⟨ρ,O,_,I,hf,fun r hr v H1 s1 z=>by
  split at hr
  · have e:=z.2; simp only [At] at e
    exact ⟨_,e,k _ hr _ H1 s1 ⟨I.same s1,at_bl⟩⟩
  · exact hr.elim⟩
noncomputable def fIf (c:FB) (f g:FP):FP:=fun ρ Q=>c ρ fun b=>if b=true then f ρ Q else g ρ Q
theorem vp_if {c:Expr} {fc:FB} {f g:FP} (hc:VC X Z c fc) (h:VP X Z a f) (h':VP X Z b g):VP X Z (.IfExp c a b pos) (fIf fc f g) :=
 .mk fun tm=>PE.weak (pe_ifExp (hc tm) (h tm) (h' tm)) fun σ H Q ⟨ρ,O,q,I,hf,k⟩=>⟨ρ,O,_,I,hf,fun c hc H1 s1=>by
  cases c with
  | true=>rw [if_pos rfl] at hc ⊢; exact ⟨ρ,O,q,I.same s1,hc,fun b hb v H' s=>k b hb v H' (s1.trans s)⟩
  | false=>rw [if_neg Bool.false_ne_true] at hc ⊢; exact ⟨ρ,O,q,I.same s1,hc,fun b hb v H' s=>k b hb v H' (s1.trans s)⟩⟩
noncomputable def fNil:FA:=fun _ Q=>Q []
noncomputable def fCons (f:FE) (g:FA):FA:=fun ρ Q=>f ρ fun t=>g ρ fun ts=>Q (t :: ts)
theorem va_nil:VA X Z [] fNil:=.mk fun tm=>PA.weak pa_nil fun σ H Q ⟨ρ,O,q,I,hf,k⟩=>k _ hf [] H (Same.refl H) AtL.nil
theorem va_cons {f:FE} {g:FA} (h:VE X Z e f) (h':VA X Z es g) (hs:starEach (e :: es) X.env=(false,eval e X.env) :: starEach es X.env:=by rfl):VA X Z (e :: es) (fCons f g) :=
 .mk fun tm=>PA.weak (pa_cons (h tm) (h' tm) hs) fun σ H Q ⟨ρ,O,q,I,hf,k⟩=>⟨ρ,O,_,I,hf,fun t ht v H1 s1 a1=>⟨ρ,O,_,I.same s1,ht,fun ts hts vs H2 s2 a2=>k _ hts _ H2 (s1.trans s2) (AtL.cons (a1.same s2) a2)⟩⟩
theorem var_nil:VAR X Z [] fNil:=.mk fun tm=>PA.weak pa_nil fun σ H Q ⟨ρ,O,q,I,hf,k⟩=>k _ hf [] H (Same.refl H) .nil
theorem var_cons {f:FE} {g:FA} (h:VR X Z e f) (h':VAR X Z es g) (hs:starEach (e :: es) X.env=(false,eval e X.env) :: starEach es X.env:=by rfl):VAR X Z (e :: es) (fCons f g) :=
 .mk fun tm=>PA.weak (pa_cons (h tm) (h' tm) hs) fun σ H Q ⟨ρ,O,q,I,hf,k⟩=>⟨ρ,O,_,I,hf,fun t ht v H1 s1 a1=>⟨ρ,O,_,I.same s1,ht,fun ts hts vs H2 s2 a2=>k _ hts _ H2 (s1.trans s2) (.cons (a1.same s2) a2)⟩⟩
noncomputable def fTup (g:FA):FP:=fun ρ Q=>g ρ fun ts=>ts.length≤sizeLine∧Q (.vw (.tup ts))
noncomputable def fLst (g:FA):FP:=fun ρ Q=>g ρ fun ts=>ts.length≤sizeLine∧Q (.fr (.lst ts))
theorem vp_tup {g:FA} {x1} (h:VA X Z es g):VP X Z (.Tuple es x1 pos) (fTup g) :=
 .mk fun tm=>PE.weak (pe_tup (h tm)) fun σ H Q ⟨ρ,O,q,I,hf,k⟩=>⟨ρ,O,_,I,hf,fun ts hts vs H1 s1 a1=>⟨by rw [a1.length]; exact hts.1,fun p hp=>k _ hts.2 _ _ (s1.trans (same_upd hp)) ⟨(I.same s1).same (same_upd hp),at_tup (SqT.of upd_same) (a1.same (same_upd hp))⟩⟩⟩
theorem vp_lst {g:FA} (h:VA X Z es g):VP X Z (.List es pos) (fLst g) :=
 .mk fun tm=>PE.weak (pe_lst (h tm)) fun σ H Q ⟨ρ,O,q,I,hf,k⟩=>⟨ρ,O,_,I,hf,fun ts hts vs H1 s1 a1=>⟨by rw [a1.length]; exact hts.1,fun p hp=>k _ hts.2 _ _ (s1.trans (same_upd hp)) ((I.same s1).newL hp a1)⟩⟩
end
end VT
namespace VT
open PySem PySem.Spec PyProof.Rows L2
mutual
noncomputable def eqT:T→T→Bool
 | .non,.non=>true
 | .bl a,.bl b=>a == b
 | .bl a,.int b=>(if a then 1 else 0) == b
 | .int a,.bl b=>a == (if b then 1 else 0)
 | .int a,.int b=>a == b
 | .str a,.str b=>a == b
 | .tup a,.tup b=>eqTs a b
 | .lst a,.lst b=>eqTs a b
 | _,_=>false
noncomputable def eqTs:List T→List T→Bool
 | [],[]=>true
 | a :: as,b :: bs=>eqT a b && eqTs as bs
 | _,_=>false
end
mutual
noncomputable def plainT:T→Bool
 | .tup l=>plainTs l
 | .lst l=>plainTs l
 | .dk _ _=>false
 | .dt _ _=>false
 | .df _ _ _=>false
 | .dz _ _ _=>false
 | .kt _=>false
 | .ins _ _ _=>false
 | .pin _ _=>false
 | .ob _=>false
 | .ty _=>false
 | _=>true
noncomputable def plainTs:List T→Bool
 | []=>true
 | t :: ts=>plainT t && plainTs ts
end
mutual
noncomputable def dep:T→Nat
 | .tup l=>deps l+1
 | .lst l=>deps l+1
 | _=>0
noncomputable def deps:List T→Nat
 | []=>0
 | t :: ts=>max (dep t) (deps ts)
end
mutual
theorem eqT_refl:∀ (t:T),plainT t=true→eqT t t=true
 | .non,_=>by simp [eqT]
 | .bl _,_=>by simp [eqT]
 | .int _,_=>by simp [eqT]
 | .str _,_=>by simp [eqT]
 | .tup l,h=>by simp only [plainT] at h; simp only [eqT]; exact eqTs_refl l h
 | .lst l,h=>by simp only [plainT] at h; simp only [eqT]; exact eqTs_refl l h
 | .dk _ _,h=>by simp only [plainT] at h; cases h
 | .dt _ _,h=>by simp only [plainT] at h; cases h
 | .df _ _ _,h=>by simp only [plainT] at h; cases h
 | .dz _ _ _,h=>by simp only [plainT] at h; cases h
 | .kt _,h=>by simp only [plainT] at h; cases h
 | .ins _ _ _,h=>by simp only [plainT] at h; cases h
 | .pin _ _,h=>by simp only [plainT] at h; cases h
 | .ob _,h=>by simp only [plainT] at h; cases h
 | .ty _,h=>by simp only [plainT] at h; cases h
theorem eqTs_refl:∀ (t:List T),plainTs t=true→eqTs t t=true
 | [],_=>by simp [eqTs]
 | t :: ts,h=>by
   simp only [plainTs,Bool.and_eq_true] at h
   simp only [eqTs,Bool.and_eq_true]
   exact ⟨eqT_refl t h.1,eqTs_refl ts h.2⟩
end
theorem eqTs_len:∀ {a b:List T},eqTs a b=true→a.length=b.length
 | [],[],_=>rfl
 | a :: as,b :: bs,h=>by simp only [eqTs,Bool.and_eq_true] at h; simp [eqTs_len h.2]
 | [],_ :: _,h=>by simp [eqTs] at h
 | _ :: _,[],h=>by simp [eqTs] at h
theorem eqTs_all:∀ {a b:List T},a.length=b.length→eqTs a b=(List.range a.length).all fun j=>match a[j]?,b[j]? with
  | some x,some y=>eqT x y
  | _,_=>true
 | [],[],_=>by simp [eqTs]
 | a :: as,b :: bs,h=>by
   have ih:=eqTs_all (a:=as) (b:=bs) (by simpa using h)
   simp only [eqTs]
   rw [ih,List.length_cons,List.range_succ_eq_map,List.all_cons,List.all_map]
   rfl
 | [],_ :: _,h=>by simp at h
 | _ :: _,[],h=>by simp at h
theorem eqTs_min:∀ {a b:List T},eqTs a b=((List.range (min a.length b.length)).all (fun j=>match a[j]?,b[j]? with
  | some x,some y=>eqT x y
  | _,_=>true) && a.length == b.length)
 | a,b=>by
   by_cases h:a.length=b.length
   · rw [eqTs_all h,h,Nat.min_self]; simp
   · have e:(a.length == b.length)=false:=by simpa using h
     rw [e,Bool.and_false]
     cases q:eqTs a b with
     | false=>rfl
     | true=>exact absurd (eqTs_len q) h
section
variable {X:Cx} {pins:List (Addr×Obj)} {σ:St} {H:Hp} {s:Shared} {O O':List Addr}
theorem not_both (I:Inv X pins σ H s) {a:Addr} {xs ys:List V} (h:SqL X.K H a xs) (h':SqT X.K H a ys):False:=by
 obtain ⟨its,_,p,_⟩:=I.list h
 obtain ⟨its2,_,p2,_⟩:=I.tuple h'
 obtain ⟨o,n,e,c,_⟩:=p
 obtain ⟨o2,e2,c2,_⟩:=p2
 rw [e] at e2
 cases e2
 rw [c] at c2
 injection c2 with c2
 exact absurd c2 (by decide)
mutual
theorem At.inj (I:Inv X pins σ H s):∀ {t u:T} {v:V},plainT t=true→plainT u=true→At X.K H O t v→At X.K H O' u v→t=u
 | .non,u,v,_,pu,h,h'=>by
   simp only [At] at h; subst h
   cases u <;> simp only [At] at h' <;> first | rfl | (simp only [plainT] at pu; cases pu; done) | (obtain ⟨_,_,e,_⟩:=h'; cases e) | (cases h'; done)
 | .bl b,u,v,_,pu,h,h'=>by
   simp only [At] at h; subst h
   cases u <;> simp only [At] at h' <;> first | (simp only [plainT] at pu; cases pu; done) | (obtain ⟨_,_,e,_⟩:=h'; cases e; done) | (cases h'; rfl) | (cases h'; done)
 | .int b,u,v,_,pu,h,h'=>by
   simp only [At] at h; subst h
   cases u <;> simp only [At] at h' <;> first | (simp only [plainT] at pu; cases pu; done) | (obtain ⟨_,_,e,_⟩:=h'; cases e; done) | (cases h'; rfl) | (cases h'; done)
 | .str b,u,v,_,pu,h,h'=>by
   simp only [At] at h; subst h
   cases u <;> simp only [At] at h' <;> first | (simp only [plainT] at pu; cases pu; done) | (obtain ⟨_,_,e,_⟩:=h'; cases e; done) | (cases h'; rfl) | (cases h'; done)
 | .dk _ _,_,_,p,_,_,_=>by simp only [plainT] at p; cases p
 | .dt _ _,_,_,p,_,_,_=>by simp only [plainT] at p; cases p
 | .df _ _ _,_,_,p,_,_,_=>by simp only [plainT] at p; cases p
 | .dz _ _ _,_,_,p,_,_,_=>by simp only [plainT] at p; cases p
 | .kt _,_,_,p,_,_,_=>by simp only [plainT] at p; cases p
 | .ins _ _ _,_,_,p,_,_,_=>by simp only [plainT] at p; cases p
 | .pin _ _,_,_,p,_,_,_=>by simp only [plainT] at p; cases p
 | .ob _,_,_,p,_,_,_=>by simp only [plainT] at p; cases p
 | .ty _,_,_,p,_,_,_=>by simp only [plainT] at p; cases p
 | .tup ts,u,v,p,pu,h,h'=>by
   simp only [At] at h
   obtain ⟨a,vs,rfl,h1,h2⟩:=h
   cases u with
   | tup us =>
     simp only [At] at h'
     obtain ⟨b,ws,e,g1,g2⟩:=h'
     cases e
     cases I.tuple_inj h1 g1
     simp only [plainT] at p pu
     rw [AtL.inj I p pu h2 g2]
   | lst us =>
     simp only [At] at h'
     obtain ⟨b,ws,e,g1,g2⟩:=h'
     cases e
     exact (not_both I g1.sq h1).elim
   | dk _ _=>simp only [plainT] at pu; cases pu
   | dt _ _=>simp only [plainT] at pu; cases pu
   | df _ _ _=>simp only [plainT] at pu; cases pu
   | dz _ _ _=>simp only [plainT] at pu; cases pu
   | kt _=>simp only [plainT] at pu; cases pu
   | ins _ _ _=>simp only [plainT] at pu; cases pu
   | pin _ _=>simp only [plainT] at pu; cases pu
   | ob _=>simp only [plainT] at pu; cases pu
   | ty _=>simp only [plainT] at pu; cases pu
   | _=>simp only [At] at h'; cases h'
 | .lst ts,u,v,p,pu,h,h'=>by
   simp only [At] at h
   obtain ⟨a,vs,rfl,h1,h2⟩:=h
   cases u with
   | lst us =>
     simp only [At] at h'
     obtain ⟨b,ws,e,g1,g2⟩:=h'
     cases e
     cases I.list_inj h1.sq g1.sq
     simp only [plainT] at p pu
     rw [AtL.inj I p pu h2 g2]
   | tup us =>
     simp only [At] at h'
     obtain ⟨b,ws,e,g1,g2⟩:=h'
     cases e
     exact (not_both I h1.sq g1).elim
   | dk _ _=>simp only [plainT] at pu; cases pu
   | dt _ _=>simp only [plainT] at pu; cases pu
   | df _ _ _=>simp only [plainT] at pu; cases pu
   | dz _ _ _=>simp only [plainT] at pu; cases pu
   | kt _=>simp only [plainT] at pu; cases pu
   | ins _ _ _=>simp only [plainT] at pu; cases pu
   | pin _ _=>simp only [plainT] at pu; cases pu
   | ob _=>simp only [plainT] at pu; cases pu
   | ty _=>simp only [plainT] at pu; cases pu
   | _=>simp only [At] at h'; cases h'
theorem AtL.inj (I:Inv X pins σ H s):∀ {ts us:List T} {vs:List V},plainTs ts=true→plainTs us=true→AtL X.K H O ts vs→AtL X.K H O' us vs→ts=us
 | [],[],_,_,_,_,_=>rfl
 | [],_ :: _,_,_,_,h,h'=>by simp only [AtL] at h h'; subst h; obtain ⟨_,_,e,_⟩:=h'; cases e
 | _ :: _,[],_,_,_,h,h'=>by simp only [AtL] at h h'; subst h'; obtain ⟨_,_,e,_⟩:=h; cases e
 | t :: ts,u :: us,_,p,pu,h,h'=>by
   simp only [AtL] at h h'
   simp only [plainTs,Bool.and_eq_true] at p pu
   obtain ⟨v,r,rfl,h1,h2⟩:=h
   obtain ⟨v',r',e,g1,g2⟩:=h'
   cases e
   rw [At.inj I p.1 pu.1 h1 g1,AtL.inj I p.2 pu.2 h2 g2]
end
theorem deps_le:∀ {ts:List T} {j:Nat} {x:T},ts[j]?=some x→dep x≤deps ts
 | [],_,_,h=>by simp at h
 | t :: ts,0,x,h=>by simp at h; subst h; simp only [deps]; omega
 | t :: ts,j+1,x,h=>by have:=deps_le (ts:=ts) (j:=j) (x:=x) (by simpa using h); simp only [deps]; omega
theorem plains_get:∀ {ts:List T} {j:Nat} {x:T},plainTs ts=true→ts[j]?=some x→plainT x=true
 | [],_,_,_,h=>by simp at h
 | t :: ts,0,x,p,h=>by simp at h; subst h; simp only [plainTs,Bool.and_eq_true] at p; exact p.1
 | t :: ts,j+1,x,p,h=>by simp only [plainTs,Bool.and_eq_true] at p; exact plains_get (ts:=ts) (j:=j) p.2 (by simpa using h)
theorem in1_units (A:Around):A.in1.units=A.units+1:=by
 first | rfl | simp [Around.in1,Around.units]
theorem items_eq (I:Inv X pins σ H s) {ts us:List T} {vs ws:List V} {its its2:List Value} {A:Around} (h1:AtL X.K H O ts vs) (h2:AtL X.K H O' us ws) (r1:Vals vs its) (r2:Vals ws its2)
  (key:∀ (j:Nat) x y v w u u',ts[j]?=some x→us[j]?=some y→At X.K H O x v→At X.K H O' y w→RelV v u→RelV w u'→SeqAt.EqAt A s u u' (eqT x y)) :
  ∀ (j:Nat) (g1:j < its.toArray.size) (g2:j < its2.toArray.size),SeqAt.EqAt A s its.toArray[j] its2.toArray[j] (match ts[j]?,us[j]? with
   | some x,some y=>eqT x y
   | _,_=>true):=fun j g1 g2=>by
 have l1:=h1.length
 have l2:=h2.length
 have m1:=r1.length
 have m2:=r2.length
 simp only [List.size_toArray] at g1 g2
 have e1:ts[j]?=some (ts[j]'(by omega)):=by simp
 have e2:us[j]?=some (us[j]'(by omega)):=by simp
 obtain ⟨v,a1,a2⟩:=h1.get e1
 obtain ⟨w,b1,b2⟩:=h2.get e2
 obtain ⟨u,c1,c2⟩:=r1.get a1
 obtain ⟨u',d1,d2⟩:=r2.get b1
 have f1:its.toArray[j]=u:=by rw [List.getElem?_eq_getElem (by omega)] at c1; simpa using c1
 have f2:its2.toArray[j]=u':=by rw [List.getElem?_eq_getElem (by omega)] at d1; simpa using d1
 rw [f1,f2,e1,e2]
 exact key j _ _ v w u u' e1 e2 a2 b2 c2 d2
theorem eqAt_T (I:Inv X pins σ H s):∀ (n:Nat) (t u:T) (v w:V) (a b:Value) (A:Around),dep t≤n→A.units+n < cLine→plainT t=true→plainT u=true→At X.K H O t v→At X.K H O' u w→RelV v a→RelV w b→SeqAt.EqAt A s a b (eqT t u):=by
 intro n
 induction n with
 | zero =>
   intro t u v w a b A hd hu pt pu ht hw rv rw'
   have hu':A.units < cLine:=by omega
   cases t with
   | tup l=>simp only [dep] at hd; omega
   | lst l=>simp only [dep] at hd; omega
   | dk _ _=>simp only [plainT] at pt; cases pt
   | dt _ _=>simp only [plainT] at pt; cases pt
   | df _ _ _=>simp only [plainT] at pt; cases pt
   | dz _ _ _=>simp only [plainT] at pt; cases pt
   | kt _=>simp only [plainT] at pt; cases pt
   | ins _ _ _=>simp only [plainT] at pt; cases pt
   | pin _ _=>simp only [plainT] at pt; cases pt
   | ob _=>simp only [plainT] at pt; cases pt
   | ty _=>simp only [plainT] at pt; cases pt
   | non =>
     simp only [At] at ht; subst ht; cases rv
     cases u with
     | tup l=>simp only [At] at hw; obtain ⟨p,ws,rfl,q,_⟩:=hw; cases rw'; obtain ⟨_,_,p1,_⟩:=I.tuple q; simp only [eqT]; exact SeqAt.EqAt.none_tuple p1 hu'
     | lst l=>simp only [At] at hw; obtain ⟨p,ws,rfl,q,_⟩:=hw; cases rw'; obtain ⟨_,_,p1,_⟩:=I.list q.sq; simp only [eqT]; exact SeqAt.EqAt.none_list p1.isList hu'
     | dk _ _=>simp only [plainT] at pu; cases pu
     | dt _ _=>simp only [plainT] at pu; cases pu
     | df _ _ _=>simp only [plainT] at pu; cases pu
     | dz _ _ _=>simp only [plainT] at pu; cases pu
     | kt _=>simp only [plainT] at pu; cases pu
     | ins _ _ _=>simp only [plainT] at pu; cases pu
     | pin _ _=>simp only [plainT] at pu; cases pu
     | ob _=>simp only [plainT] at pu; cases pu
     | ty _=>simp only [plainT] at pu; cases pu
     | non=>simp only [At] at hw; subst hw; cases rw'; simp only [eqT]; exact SeqAt.EqAt.same _
     | bl c=>simp only [At] at hw; subst hw; cases rw'; simp only [eqT]; exact SeqAt.EqAt.none_bool c
     | int c=>simp only [At] at hw; subst hw; obtain ⟨t,rfl⟩:=rw'; simp only [eqT]; exact SeqAt.EqAt.none_int c t
     | str c=>simp only [At] at hw; subst hw; obtain ⟨t,rfl⟩:=rw'; simp only [eqT]; exact SeqAt.EqAt.none_str c t
   | bl d =>
     simp only [At] at ht; subst ht; cases rv
     cases u with
     | tup l=>simp only [At] at hw; obtain ⟨p,ws,rfl,q,_⟩:=hw; cases rw'; obtain ⟨_,_,p1,_⟩:=I.tuple q; simp only [eqT]; exact SeqAt.EqAt.bool_tuple d p1 hu'
     | lst l=>simp only [At] at hw; obtain ⟨p,ws,rfl,q,_⟩:=hw; cases rw'; obtain ⟨_,_,p1,_⟩:=I.list q.sq; simp only [eqT]; exact SeqAt.EqAt.bool_list d p1.isList hu'
     | dk _ _=>simp only [plainT] at pu; cases pu
     | dt _ _=>simp only [plainT] at pu; cases pu
     | df _ _ _=>simp only [plainT] at pu; cases pu
     | dz _ _ _=>simp only [plainT] at pu; cases pu
     | kt _=>simp only [plainT] at pu; cases pu
     | ins _ _ _=>simp only [plainT] at pu; cases pu
     | pin _ _=>simp only [plainT] at pu; cases pu
     | ob _=>simp only [plainT] at pu; cases pu
     | ty _=>simp only [plainT] at pu; cases pu
     | non=>simp only [At] at hw; subst hw; cases rw'; simp only [eqT]; exact SeqAt.EqAt.bool_none d
     | bl c=>simp only [At] at hw; subst hw; cases rw'; simp only [eqT]; exact SeqAt.EqAt.bool_bool d c
     | int c=>simp only [At] at hw; subst hw; obtain ⟨t,rfl⟩:=rw'; simp only [eqT]; exact SeqAt.EqAt.bool_int d c t
     | str c=>simp only [At] at hw; subst hw; obtain ⟨t,rfl⟩:=rw'; simp only [eqT]; exact SeqAt.EqAt.bool_str d c t
   | int d =>
     simp only [At] at ht; subst ht; obtain ⟨t',rfl⟩:=rv
     cases u with
     | tup l=>simp only [At] at hw; obtain ⟨p,ws,rfl,q,_⟩:=hw; cases rw'; obtain ⟨_,_,p1,_⟩:=I.tuple q; simp only [eqT]; exact SeqAt.EqAt.int_tuple d t' p1 hu'
     | lst l=>simp only [At] at hw; obtain ⟨p,ws,rfl,q,_⟩:=hw; cases rw'; obtain ⟨_,_,p1,_⟩:=I.list q.sq; simp only [eqT]; exact SeqAt.EqAt.int_list d t' p1.isList hu'
     | dk _ _=>simp only [plainT] at pu; cases pu
     | dt _ _=>simp only [plainT] at pu; cases pu
     | df _ _ _=>simp only [plainT] at pu; cases pu
     | dz _ _ _=>simp only [plainT] at pu; cases pu
     | kt _=>simp only [plainT] at pu; cases pu
     | ins _ _ _=>simp only [plainT] at pu; cases pu
     | pin _ _=>simp only [plainT] at pu; cases pu
     | ob _=>simp only [plainT] at pu; cases pu
     | ty _=>simp only [plainT] at pu; cases pu
     | non=>simp only [At] at hw; subst hw; cases rw'; simp only [eqT]; exact SeqAt.EqAt.int_none d t'
     | bl c=>simp only [At] at hw; subst hw; cases rw'; simp only [eqT]; exact SeqAt.EqAt.int_bool d t' c
     | int c=>simp only [At] at hw; subst hw; obtain ⟨t,rfl⟩:=rw'; simp only [eqT]; exact SeqAt.EqAt.int_int d t' c t
     | str c=>simp only [At] at hw; subst hw; obtain ⟨t,rfl⟩:=rw'; simp only [eqT]; exact SeqAt.EqAt.int_str d t' c t
   | str d =>
     simp only [At] at ht; subst ht; obtain ⟨t',rfl⟩:=rv
     cases u with
     | tup l=>simp only [At] at hw; obtain ⟨p,ws,rfl,q,_⟩:=hw; cases rw'; obtain ⟨_,_,p1,_⟩:=I.tuple q; simp only [eqT]; exact SeqAt.EqAt.str_tuple d t' p1 hu'
     | lst l=>simp only [At] at hw; obtain ⟨p,ws,rfl,q,_⟩:=hw; cases rw'; obtain ⟨_,_,p1,_⟩:=I.list q.sq; simp only [eqT]; exact SeqAt.EqAt.str_list d t' p1.isList hu'
     | dk _ _=>simp only [plainT] at pu; cases pu
     | dt _ _=>simp only [plainT] at pu; cases pu
     | df _ _ _=>simp only [plainT] at pu; cases pu
     | dz _ _ _=>simp only [plainT] at pu; cases pu
     | kt _=>simp only [plainT] at pu; cases pu
     | ins _ _ _=>simp only [plainT] at pu; cases pu
     | pin _ _=>simp only [plainT] at pu; cases pu
     | ob _=>simp only [plainT] at pu; cases pu
     | ty _=>simp only [plainT] at pu; cases pu
     | non=>simp only [At] at hw; subst hw; cases rw'; simp only [eqT]; exact SeqAt.EqAt.str_none d t'
     | bl c=>simp only [At] at hw; subst hw; cases rw'; simp only [eqT]; exact SeqAt.EqAt.str_bool d t' c
     | int c=>simp only [At] at hw; subst hw; obtain ⟨t,rfl⟩:=rw'; simp only [eqT]; exact SeqAt.EqAt.str_int d t' c t
     | str c=>simp only [At] at hw; subst hw; obtain ⟨t,rfl⟩:=rw'; simp only [eqT]; exact SeqAt.EqAt.str_str d t' c t
 | succ n ih =>
   intro t u v w a b A hd hu pt pu ht hw rv rw'
   by_cases h0:dep t≤n
   · exact ih t u v w a b A h0 (by omega) pt pu ht hw rv rw'
   · have hu':A.units < cLine:=by omega
     have hu1:A.in1.units+n < cLine:=by rw [in1_units]; omega
     cases t with
     | tup l =>
       simp only [plainT] at pt
       simp only [dep] at hd
       have ht0:=ht
       simp only [At] at ht
       obtain ⟨p,vs,rfl,h1,h2⟩:=ht
       cases rv
       obtain ⟨its,r1,p1,_⟩:=I.tuple h1
       cases u with
       | tup l' =>
         have hw0:=hw
         simp only [At] at hw
         obtain ⟨p',ws,rfl,g1,g2⟩:=hw
         cases rw'
         simp only [plainT] at pu
         by_cases e:p=p'
         · subst e
           have:=At.inj I (t:=.tup l) (u:=.tup l') (by simp only [plainT]; exact pt) (by simp only [plainT]; exact pu) ht0 hw0
           rw [← this,eqT_refl _ (by simp only [plainT]; exact pt)]
           exact SeqAt.EqAt.same _
         · obtain ⟨its2,r2,p2,_⟩:=I.tuple g1
           refine SeqAt.EqAt.of_refs e ?_
           have:=SeqAt.RcAt.tuples (A:=A) p1 p2 hu' (items_eq I h2 g2 r1 r2 fun j x y v w u u' e1 e2 a1 a2 b1 b2=>ih x y v w u u' A.in1 (Nat.le_trans (deps_le e1) (by omega)) hu1 (plains_get pt e1) (plains_get pu e2) a1 a2 b1 b2)
           simp only [eqT]
           rw [eqTs_min]
           have e1:=r1.length
           have e2:=r2.length
           have e3:=h2.length
           have e4:=g2.length
           simp only [List.size_toArray] at this
           rw [← e1,← e2,e3,e4] at this
           exact this
       | lst l'=>simp only [At] at hw; obtain ⟨p',ws,rfl,q,_⟩:=hw; cases rw'; obtain ⟨_,_,p2,_⟩:=I.list q.sq; simp only [eqT]; exact SeqAt.EqAt.tuple_list p1 p2.isList hu'
       | dk _ _=>simp only [plainT] at pu; cases pu
       | dt _ _=>simp only [plainT] at pu; cases pu
       | df _ _ _=>simp only [plainT] at pu; cases pu
       | dz _ _ _=>simp only [plainT] at pu; cases pu
       | kt _=>simp only [plainT] at pu; cases pu
       | ins _ _ _=>simp only [plainT] at pu; cases pu
       | pin _ _=>simp only [plainT] at pu; cases pu
       | ob _=>simp only [plainT] at pu; cases pu
       | ty _=>simp only [plainT] at pu; cases pu
       | non=>simp only [At] at hw; subst hw; cases rw'; simp only [eqT]; exact SeqAt.EqAt.tuple_none p1 hu'
       | bl c=>simp only [At] at hw; subst hw; cases rw'; simp only [eqT]; exact SeqAt.EqAt.tuple_bool c p1 hu'
       | int c=>simp only [At] at hw; subst hw; obtain ⟨t,rfl⟩:=rw'; simp only [eqT]; exact SeqAt.EqAt.tuple_int c t p1 hu'
       | str c=>simp only [At] at hw; subst hw; obtain ⟨t,rfl⟩:=rw'; simp only [eqT]; exact SeqAt.EqAt.tuple_str c t p1 hu'
     | lst l =>
       simp only [plainT] at pt
       simp only [dep] at hd
       have ht0:=ht
       simp only [At] at ht
       obtain ⟨p,vs,rfl,h1,h2⟩:=ht
       cases rv
       obtain ⟨its,r1,p1,_⟩:=I.list h1.sq
       cases u with
       | lst l' =>
         have hw0:=hw
         simp only [At] at hw
         obtain ⟨p',ws,rfl,g1,g2⟩:=hw
         cases rw'
         simp only [plainT] at pu
         by_cases e:p=p'
         · subst e
           have:=At.inj I (t:=.lst l) (u:=.lst l') (by simp only [plainT]; exact pt) (by simp only [plainT]; exact pu) ht0 hw0
           rw [← this,eqT_refl _ (by simp only [plainT]; exact pt)]
           exact SeqAt.EqAt.same _
         · obtain ⟨its2,r2,p2,_⟩:=I.list g1.sq
           refine SeqAt.EqAt.of_refs e ?_
           have e1:=r1.length
           have e2:=r2.length
           have e3:=h2.length
           have e4:=g2.length
           by_cases hl:l.length=l'.length
           · have:=SeqAt.RcAt.lists (A:=A) p1.isList p2.isList (by simp only [List.size_toArray]; omega) hu' (items_eq I h2 g2 r1 r2 fun j x y v w u u' e1 e2 a1 a2 b1 b2=>ih x y v w u u' A.in1 (Nat.le_trans (deps_le e1) (by omega)) hu1 (plains_get pt e1) (plains_get pu e2) a1 a2 b1 b2)
             simp only [eqT]
             rw [eqTs_all hl]
             simp only [List.size_toArray] at this
             rw [← e1,e3] at this
             exact this
           · simp only [eqT]
             have:eqTs l l'=false:=by
              cases q:eqTs l l' with
              | false=>rfl
              | true=>exact absurd (eqTs_len q) hl
             rw [this]
             exact SeqAt.RcAt.lists_lengths p1.isList p2.isList (by simp only [List.size_toArray]; rw [bne_iff_ne]; omega) hu'
       | tup l'=>simp only [At] at hw; obtain ⟨p',ws,rfl,q,_⟩:=hw; cases rw'; obtain ⟨_,_,p2,_⟩:=I.tuple q; simp only [eqT]; exact SeqAt.EqAt.list_tuple p1.isList p2 hu'
       | dk _ _=>simp only [plainT] at pu; cases pu
       | dt _ _=>simp only [plainT] at pu; cases pu
       | df _ _ _=>simp only [plainT] at pu; cases pu
       | dz _ _ _=>simp only [plainT] at pu; cases pu
       | kt _=>simp only [plainT] at pu; cases pu
       | ins _ _ _=>simp only [plainT] at pu; cases pu
       | pin _ _=>simp only [plainT] at pu; cases pu
       | ob _=>simp only [plainT] at pu; cases pu
       | ty _=>simp only [plainT] at pu; cases pu
       | non=>simp only [At] at hw; subst hw; cases rw'; simp only [eqT]; exact SeqAt.EqAt.list_none p1.isList hu'
       | bl c=>simp only [At] at hw; subst hw; cases rw'; simp only [eqT]; exact SeqAt.EqAt.list_bool c p1.isList hu'
       | int c=>simp only [At] at hw; subst hw; obtain ⟨t,rfl⟩:=rw'; simp only [eqT]; exact SeqAt.EqAt.list_int c t p1.isList hu'
       | str c=>simp only [At] at hw; subst hw; obtain ⟨t,rfl⟩:=rw'; simp only [eqT]; exact SeqAt.EqAt.list_str c t p1.isList hu'
     | _=>exact absurd (Nat.zero_le n) h0
end
end VT
namespace VT
open PySem PySem.Spec PyProof.Rows L2
section
variable {X:Cx} {pins:List (Addr×Obj)} {σ:St} {H:Hp} {s:Shared} {O O':List Addr}
theorem rcAt_T (I:Inv X pins σ H s) (t u:T) (v w:V) (a b:Value) (A:Around) (hd:dep t≤100) (hu:A.units+101 < cLine) (pt:plainT t=true) (pu:plainT u=true) (ht:At X.K H O t v) (hw:At X.K H O' u w) (rv:RelV v a) (rw':RelV w b):SeqAt.RcAt A s a b (eqT t u):=by
 have hu':A.units < cLine:=by omega
 have hu1:A.in1.units+100 < cLine:=by rw [in1_units]; omega
 cases t with
 | dk _ _=>simp only [plainT] at pt; cases pt
 | dt _ _=>simp only [plainT] at pt; cases pt
 | df _ _ _=>simp only [plainT] at pt; cases pt
 | dz _ _ _=>simp only [plainT] at pt; cases pt
 | kt _=>simp only [plainT] at pt; cases pt
 | ins _ _ _=>simp only [plainT] at pt; cases pt
 | pin _ _=>simp only [plainT] at pt; cases pt
 | ob _=>simp only [plainT] at pt; cases pt
 | ty _=>simp only [plainT] at pt; cases pt
 | non =>
   simp only [At] at ht; subst ht; cases rv
   cases u with
   | dk _ _=>simp only [plainT] at pu; cases pu
   | dt _ _=>simp only [plainT] at pu; cases pu
   | df _ _ _=>simp only [plainT] at pu; cases pu
   | dz _ _ _=>simp only [plainT] at pu; cases pu
   | kt _=>simp only [plainT] at pu; cases pu
   | ins _ _ _=>simp only [plainT] at pu; cases pu
   | pin _ _=>simp only [plainT] at pu; cases pu
   | ob _=>simp only [plainT] at pu; cases pu
   | ty _=>simp only [plainT] at pu; cases pu
   | non =>
     simp only [At] at hw; subst hw; cases rw'
     simp only [eqT]
     exact SeqAt.RcAt.none_none
   | bl c =>
     simp only [At] at hw; subst hw; cases rw'
     simp only [eqT]
     exact SeqAt.RcAt.none_bool c
   | int c =>
     simp only [At] at hw; subst hw; obtain ⟨t2,rfl⟩:=rw'
     simp only [eqT]
     exact SeqAt.RcAt.none_int c t2
   | str c =>
     simp only [At] at hw; subst hw; obtain ⟨t2,rfl⟩:=rw'
     simp only [eqT]
     exact SeqAt.RcAt.none_str c t2
   | tup l=>simp only [At] at hw; obtain ⟨p,ws,rfl,q,_⟩:=hw; cases rw'; obtain ⟨_,_,p1,_⟩:=I.tuple q; simp only [eqT]; exact SeqAt.RcAt.none_tuple p1 hu'
   | lst l=>simp only [At] at hw; obtain ⟨p,ws,rfl,q,_⟩:=hw; cases rw'; obtain ⟨_,_,p1,_⟩:=I.list q.sq; simp only [eqT]; exact SeqAt.RcAt.none_list p1.isList hu'
 | bl d =>
   simp only [At] at ht; subst ht; cases rv
   cases u with
   | dk _ _=>simp only [plainT] at pu; cases pu
   | dt _ _=>simp only [plainT] at pu; cases pu
   | df _ _ _=>simp only [plainT] at pu; cases pu
   | dz _ _ _=>simp only [plainT] at pu; cases pu
   | kt _=>simp only [plainT] at pu; cases pu
   | ins _ _ _=>simp only [plainT] at pu; cases pu
   | pin _ _=>simp only [plainT] at pu; cases pu
   | ob _=>simp only [plainT] at pu; cases pu
   | ty _=>simp only [plainT] at pu; cases pu
   | non =>
     simp only [At] at hw; subst hw; cases rw'
     simp only [eqT]
     exact SeqAt.RcAt.bool_none d
   | bl c =>
     simp only [At] at hw; subst hw; cases rw'
     simp only [eqT]
     exact SeqAt.RcAt.bool_bool d c
   | int c =>
     simp only [At] at hw; subst hw; obtain ⟨t2,rfl⟩:=rw'
     simp only [eqT]
     exact SeqAt.RcAt.bool_int d c t2
   | str c =>
     simp only [At] at hw; subst hw; obtain ⟨t2,rfl⟩:=rw'
     simp only [eqT]
     exact SeqAt.RcAt.bool_str d c t2
   | tup l=>simp only [At] at hw; obtain ⟨p,ws,rfl,q,_⟩:=hw; cases rw'; obtain ⟨_,_,p1,_⟩:=I.tuple q; simp only [eqT]; exact SeqAt.RcAt.bool_tuple d p1 hu'
   | lst l=>simp only [At] at hw; obtain ⟨p,ws,rfl,q,_⟩:=hw; cases rw'; obtain ⟨_,_,p1,_⟩:=I.list q.sq; simp only [eqT]; exact SeqAt.RcAt.bool_list d p1.isList hu'
 | int d =>
   simp only [At] at ht; subst ht; obtain ⟨t1,rfl⟩:=rv
   cases u with
   | dk _ _=>simp only [plainT] at pu; cases pu
   | dt _ _=>simp only [plainT] at pu; cases pu
   | df _ _ _=>simp only [plainT] at pu; cases pu
   | dz _ _ _=>simp only [plainT] at pu; cases pu
   | kt _=>simp only [plainT] at pu; cases pu
   | ins _ _ _=>simp only [plainT] at pu; cases pu
   | pin _ _=>simp only [plainT] at pu; cases pu
   | ob _=>simp only [plainT] at pu; cases pu
   | ty _=>simp only [plainT] at pu; cases pu
   | non =>
     simp only [At] at hw; subst hw; cases rw'
     simp only [eqT]
     exact SeqAt.RcAt.int_none d t1
   | bl c =>
     simp only [At] at hw; subst hw; cases rw'
     simp only [eqT]
     exact SeqAt.RcAt.int_bool d t1 c
   | int c =>
     simp only [At] at hw; subst hw; obtain ⟨t2,rfl⟩:=rw'
     simp only [eqT]
     exact SeqAt.RcAt.int_int d t1 c t2
   | str c =>
     simp only [At] at hw; subst hw; obtain ⟨t2,rfl⟩:=rw'
     simp only [eqT]
     exact SeqAt.RcAt.int_str d t1 c t2
   | tup l=>simp only [At] at hw; obtain ⟨p,ws,rfl,q,_⟩:=hw; cases rw'; obtain ⟨_,_,p1,_⟩:=I.tuple q; simp only [eqT]; exact SeqAt.RcAt.int_tuple d t1 p1 hu'
   | lst l=>simp only [At] at hw; obtain ⟨p,ws,rfl,q,_⟩:=hw; cases rw'; obtain ⟨_,_,p1,_⟩:=I.list q.sq; simp only [eqT]; exact SeqAt.RcAt.int_list d t1 p1.isList hu'
 | str d =>
   simp only [At] at ht; subst ht; obtain ⟨t1,rfl⟩:=rv
   cases u with
   | dk _ _=>simp only [plainT] at pu; cases pu
   | dt _ _=>simp only [plainT] at pu; cases pu
   | df _ _ _=>simp only [plainT] at pu; cases pu
   | dz _ _ _=>simp only [plainT] at pu; cases pu
   | kt _=>simp only [plainT] at pu; cases pu
   | ins _ _ _=>simp only [plainT] at pu; cases pu
   | pin _ _=>simp only [plainT] at pu; cases pu
   | ob _=>simp only [plainT] at pu; cases pu
   | ty _=>simp only [plainT] at pu; cases pu
   | non =>
     simp only [At] at hw; subst hw; cases rw'
     simp only [eqT]
     exact SeqAt.RcAt.str_none d t1
   | bl c =>
     simp only [At] at hw; subst hw; cases rw'
     simp only [eqT]
     exact SeqAt.RcAt.str_bool d t1 c
   | int c =>
     simp only [At] at hw; subst hw; obtain ⟨t2,rfl⟩:=rw'
     simp only [eqT]
     exact SeqAt.RcAt.str_int d t1 c t2
   | str c =>
     simp only [At] at hw; subst hw; obtain ⟨t2,rfl⟩:=rw'
     simp only [eqT]
     exact SeqAt.RcAt.str_str d t1 c t2
   | tup l=>simp only [At] at hw; obtain ⟨p,ws,rfl,q,_⟩:=hw; cases rw'; obtain ⟨_,_,p1,_⟩:=I.tuple q; simp only [eqT]; exact SeqAt.RcAt.str_tuple d t1 p1 hu'
   | lst l=>simp only [At] at hw; obtain ⟨p,ws,rfl,q,_⟩:=hw; cases rw'; obtain ⟨_,_,p1,_⟩:=I.list q.sq; simp only [eqT]; exact SeqAt.RcAt.str_list d t1 p1.isList hu'
 | tup l =>
   simp only [plainT] at pt
   simp only [dep] at hd
   simp only [At] at ht
   obtain ⟨p,vs,rfl,h1,h2⟩:=ht
   cases rv
   obtain ⟨its,r1,p1,_⟩:=I.tuple h1
   cases u with
   | dk _ _=>simp only [plainT] at pu; cases pu
   | dt _ _=>simp only [plainT] at pu; cases pu
   | df _ _ _=>simp only [plainT] at pu; cases pu
   | dz _ _ _=>simp only [plainT] at pu; cases pu
   | kt _=>simp only [plainT] at pu; cases pu
   | ins _ _ _=>simp only [plainT] at pu; cases pu
   | pin _ _=>simp only [plainT] at pu; cases pu
   | ob _=>simp only [plainT] at pu; cases pu
   | ty _=>simp only [plainT] at pu; cases pu
   | non =>
     simp only [At] at hw; subst hw; cases rw'
     simp only [eqT]
     exact SeqAt.RcAt.tuple_none p1 hu'
   | bl c =>
     simp only [At] at hw; subst hw; cases rw'
     simp only [eqT]
     exact SeqAt.RcAt.tuple_bool c p1 hu'
   | int c =>
     simp only [At] at hw; subst hw; obtain ⟨t2,rfl⟩:=rw'
     simp only [eqT]
     exact SeqAt.RcAt.tuple_int c t2 p1 hu'
   | str c =>
     simp only [At] at hw; subst hw; obtain ⟨t2,rfl⟩:=rw'
     simp only [eqT]
     exact SeqAt.RcAt.tuple_str c t2 p1 hu'
   | tup l' =>
     simp only [At] at hw
     obtain ⟨p',ws,rfl,g1,g2⟩:=hw
     cases rw'
     obtain ⟨its2,r2,p2,_⟩:=I.tuple g1
     simp only [eqT]
     simp only [plainT] at pu
     have e1:=r1.length
     have e2:=r2.length
     have e3:=h2.length
     have e4:=g2.length
     have:=SeqAt.RcAt.tuples (A:=A) p1 p2 hu' (items_eq I h2 g2 r1 r2 fun j x y v w u u' e1 e2 a1 a2 b1 b2=>eqAt_T I 100 x y v w u u' A.in1 (Nat.le_trans (deps_le e1) (by omega)) hu1 (plains_get pt e1) (plains_get pu e2) a1 a2 b1 b2)
     simp only [List.size_toArray] at this
     rw [← e1,← e2,e3,e4] at this
     rw [eqTs_min]
     exact this
   | lst l' =>
     simp only [At] at hw
     obtain ⟨p',ws,rfl,g1,g2⟩:=hw
     cases rw'
     obtain ⟨its2,r2,p2,_⟩:=I.list g1.sq
     simp only [eqT]
     exact SeqAt.RcAt.tuple_list p1 p2.isList hu'
 | lst l =>
   simp only [plainT] at pt
   simp only [dep] at hd
   simp only [At] at ht
   obtain ⟨p,vs,rfl,h1,h2⟩:=ht
   cases rv
   obtain ⟨its,r1,p1,_⟩:=I.list h1.sq
   cases u with
   | dk _ _=>simp only [plainT] at pu; cases pu
   | dt _ _=>simp only [plainT] at pu; cases pu
   | df _ _ _=>simp only [plainT] at pu; cases pu
   | dz _ _ _=>simp only [plainT] at pu; cases pu
   | kt _=>simp only [plainT] at pu; cases pu
   | ins _ _ _=>simp only [plainT] at pu; cases pu
   | pin _ _=>simp only [plainT] at pu; cases pu
   | ob _=>simp only [plainT] at pu; cases pu
   | ty _=>simp only [plainT] at pu; cases pu
   | non =>
     simp only [At] at hw; subst hw; cases rw'
     simp only [eqT]
     exact SeqAt.RcAt.list_none p1.isList hu'
   | bl c =>
     simp only [At] at hw; subst hw; cases rw'
     simp only [eqT]
     exact SeqAt.RcAt.list_bool c p1.isList hu'
   | int c =>
     simp only [At] at hw; subst hw; obtain ⟨t2,rfl⟩:=rw'
     simp only [eqT]
     exact SeqAt.RcAt.list_int c t2 p1.isList hu'
   | str c =>
     simp only [At] at hw; subst hw; obtain ⟨t2,rfl⟩:=rw'
     simp only [eqT]
     exact SeqAt.RcAt.list_str c t2 p1.isList hu'
   | tup l' =>
     simp only [At] at hw
     obtain ⟨p',ws,rfl,g1,g2⟩:=hw
     cases rw'
     obtain ⟨its2,r2,p2,_⟩:=I.tuple g1
     simp only [eqT]
     exact SeqAt.RcAt.list_tuple p1.isList p2 hu'
   | lst l' =>
     simp only [At] at hw
     obtain ⟨p',ws,rfl,g1,g2⟩:=hw
     cases rw'
     obtain ⟨its2,r2,p2,_⟩:=I.list g1.sq
     simp only [eqT]
     simp only [plainT] at pu
     have e1:=r1.length
     have e2:=r2.length
     have e3:=h2.length
     have e4:=g2.length
     by_cases hl:l.length=l'.length
     · have:=SeqAt.RcAt.lists (A:=A) p1.isList p2.isList (by simp only [List.size_toArray]; omega) hu' (items_eq I h2 g2 r1 r2 fun j x y v w u u' e1 e2 a1 a2 b1 b2=>eqAt_T I 100 x y v w u u' A.in1 (Nat.le_trans (deps_le e1) (by omega)) hu1 (plains_get pt e1) (plains_get pu e2) a1 a2 b1 b2)
       simp only [List.size_toArray] at this
       rw [← e1,e3] at this
       rw [eqTs_all hl]
       exact this
     · have:eqTs l l'=false:=by
        cases q:eqTs l l' with
        | false=>rfl
        | true=>exact absurd (eqTs_len q) hl
       rw [this]
       exact SeqAt.RcAt.lists_lengths p1.isList p2.isList (by simp only [List.size_toArray]; rw [bne_iff_ne]; omega) hu'
theorem rcNe_T (I:Inv X pins σ H s) (t u:T) (v w:V) (a b:Value) (A:Around) (hd:dep t≤100) (hu:A.units+101 < cLine) (pt:plainT t=true) (pu:plainT u=true) (ht:At X.K H O t v) (hw:At X.K H O' u w) (rv:RelV v a) (rw':RelV w b):SeqAt.RcNeAt A s a b (!eqT t u):=by
 have hu':A.units < cLine:=by omega
 have hu1:A.in1.units+100 < cLine:=by rw [in1_units]; omega
 cases t with
 | dk _ _=>simp only [plainT] at pt; cases pt
 | dt _ _=>simp only [plainT] at pt; cases pt
 | df _ _ _=>simp only [plainT] at pt; cases pt
 | dz _ _ _=>simp only [plainT] at pt; cases pt
 | kt _=>simp only [plainT] at pt; cases pt
 | ins _ _ _=>simp only [plainT] at pt; cases pt
 | pin _ _=>simp only [plainT] at pt; cases pt
 | ob _=>simp only [plainT] at pt; cases pt
 | ty _=>simp only [plainT] at pt; cases pt
 | non =>
   simp only [At] at ht; subst ht; cases rv
   cases u with
   | dk _ _=>simp only [plainT] at pu; cases pu
   | dt _ _=>simp only [plainT] at pu; cases pu
   | df _ _ _=>simp only [plainT] at pu; cases pu
   | dz _ _ _=>simp only [plainT] at pu; cases pu
   | kt _=>simp only [plainT] at pu; cases pu
   | ins _ _ _=>simp only [plainT] at pu; cases pu
   | pin _ _=>simp only [plainT] at pu; cases pu
   | ob _=>simp only [plainT] at pu; cases pu
   | ty _=>simp only [plainT] at pu; cases pu
   | non =>
     simp only [At] at hw; subst hw; cases rw'
     simp only [eqT]
     exact SeqAt.RcNeAt.none_none
   | bl c =>
     simp only [At] at hw; subst hw; cases rw'
     simp only [eqT]
     exact SeqAt.RcNeAt.none_bool c
   | int c =>
     simp only [At] at hw; subst hw; obtain ⟨t2,rfl⟩:=rw'
     simp only [eqT]
     exact SeqAt.RcNeAt.none_int c t2
   | str c =>
     simp only [At] at hw; subst hw; obtain ⟨t2,rfl⟩:=rw'
     simp only [eqT]
     exact SeqAt.RcNeAt.none_str c t2
   | tup l=>simp only [At] at hw; obtain ⟨p,ws,rfl,q,_⟩:=hw; cases rw'; obtain ⟨_,_,p1,_⟩:=I.tuple q; simp only [eqT]; exact SeqAt.RcNeAt.none_tuple p1 hu'
   | lst l=>simp only [At] at hw; obtain ⟨p,ws,rfl,q,_⟩:=hw; cases rw'; obtain ⟨_,_,p1,_⟩:=I.list q.sq; simp only [eqT]; exact SeqAt.RcNeAt.none_list p1.isList hu'
 | bl d =>
   simp only [At] at ht; subst ht; cases rv
   cases u with
   | dk _ _=>simp only [plainT] at pu; cases pu
   | dt _ _=>simp only [plainT] at pu; cases pu
   | df _ _ _=>simp only [plainT] at pu; cases pu
   | dz _ _ _=>simp only [plainT] at pu; cases pu
   | kt _=>simp only [plainT] at pu; cases pu
   | ins _ _ _=>simp only [plainT] at pu; cases pu
   | pin _ _=>simp only [plainT] at pu; cases pu
   | ob _=>simp only [plainT] at pu; cases pu
   | ty _=>simp only [plainT] at pu; cases pu
   | non =>
     simp only [At] at hw; subst hw; cases rw'
     simp only [eqT]
     exact SeqAt.RcNeAt.bool_none d
   | bl c =>
     simp only [At] at hw; subst hw; cases rw'
     simp only [eqT]
     exact SeqAt.RcNeAt.bool_bool d c
   | int c =>
     simp only [At] at hw; subst hw; obtain ⟨t2,rfl⟩:=rw'
     simp only [eqT]
     exact SeqAt.RcNeAt.bool_int d c t2
   | str c =>
     simp only [At] at hw; subst hw; obtain ⟨t2,rfl⟩:=rw'
     simp only [eqT]
     exact SeqAt.RcNeAt.bool_str d c t2
   | tup l=>simp only [At] at hw; obtain ⟨p,ws,rfl,q,_⟩:=hw; cases rw'; obtain ⟨_,_,p1,_⟩:=I.tuple q; simp only [eqT]; exact SeqAt.RcNeAt.bool_tuple d p1 hu'
   | lst l=>simp only [At] at hw; obtain ⟨p,ws,rfl,q,_⟩:=hw; cases rw'; obtain ⟨_,_,p1,_⟩:=I.list q.sq; simp only [eqT]; exact SeqAt.RcNeAt.bool_list d p1.isList hu'
 | int d =>
   simp only [At] at ht; subst ht; obtain ⟨t1,rfl⟩:=rv
   cases u with
   | dk _ _=>simp only [plainT] at pu; cases pu
   | dt _ _=>simp only [plainT] at pu; cases pu
   | df _ _ _=>simp only [plainT] at pu; cases pu
   | dz _ _ _=>simp only [plainT] at pu; cases pu
   | kt _=>simp only [plainT] at pu; cases pu
   | ins _ _ _=>simp only [plainT] at pu; cases pu
   | pin _ _=>simp only [plainT] at pu; cases pu
   | ob _=>simp only [plainT] at pu; cases pu
   | ty _=>simp only [plainT] at pu; cases pu
   | non =>
     simp only [At] at hw; subst hw; cases rw'
     simp only [eqT]
     exact SeqAt.RcNeAt.int_none d t1
   | bl c =>
     simp only [At] at hw; subst hw; cases rw'
     simp only [eqT]
     exact SeqAt.RcNeAt.int_bool d t1 c
   | int c =>
     simp only [At] at hw; subst hw; obtain ⟨t2,rfl⟩:=rw'
     simp only [eqT]
     exact SeqAt.RcNeAt.int_int d t1 c t2
   | str c =>
     simp only [At] at hw; subst hw; obtain ⟨t2,rfl⟩:=rw'
     simp only [eqT]
     exact SeqAt.RcNeAt.int_str d t1 c t2
   | tup l=>simp only [At] at hw; obtain ⟨p,ws,rfl,q,_⟩:=hw; cases rw'; obtain ⟨_,_,p1,_⟩:=I.tuple q; simp only [eqT]; exact SeqAt.RcNeAt.int_tuple d t1 p1 hu'
   | lst l=>simp only [At] at hw; obtain ⟨p,ws,rfl,q,_⟩:=hw; cases rw'; obtain ⟨_,_,p1,_⟩:=I.list q.sq; simp only [eqT]; exact SeqAt.RcNeAt.int_list d t1 p1.isList hu'
 | str d =>
   simp only [At] at ht; subst ht; obtain ⟨t1,rfl⟩:=rv
   cases u with
   | dk _ _=>simp only [plainT] at pu; cases pu
   | dt _ _=>simp only [plainT] at pu; cases pu
   | df _ _ _=>simp only [plainT] at pu; cases pu
   | dz _ _ _=>simp only [plainT] at pu; cases pu
   | kt _=>simp only [plainT] at pu; cases pu
   | ins _ _ _=>simp only [plainT] at pu; cases pu
   | pin _ _=>simp only [plainT] at pu; cases pu
   | ob _=>simp only [plainT] at pu; cases pu
   | ty _=>simp only [plainT] at pu; cases pu
   | non =>
     simp only [At] at hw; subst hw; cases rw'
     simp only [eqT]
     exact SeqAt.RcNeAt.str_none d t1
   | bl c =>
     simp only [At] at hw; subst hw; cases rw'
     simp only [eqT]
     exact SeqAt.RcNeAt.str_bool d t1 c
   | int c =>
     simp only [At] at hw; subst hw; obtain ⟨t2,rfl⟩:=rw'
     simp only [eqT]
     exact SeqAt.RcNeAt.str_int d t1 c t2
   | str c =>
     simp only [At] at hw; subst hw; obtain ⟨t2,rfl⟩:=rw'
     simp only [eqT]
     exact SeqAt.RcNeAt.str_str d t1 c t2
   | tup l=>simp only [At] at hw; obtain ⟨p,ws,rfl,q,_⟩:=hw; cases rw'; obtain ⟨_,_,p1,_⟩:=I.tuple q; simp only [eqT]; exact SeqAt.RcNeAt.str_tuple d t1 p1 hu'
   | lst l=>simp only [At] at hw; obtain ⟨p,ws,rfl,q,_⟩:=hw; cases rw'; obtain ⟨_,_,p1,_⟩:=I.list q.sq; simp only [eqT]; exact SeqAt.RcNeAt.str_list d t1 p1.isList hu'
 | tup l =>
   simp only [plainT] at pt
   simp only [dep] at hd
   simp only [At] at ht
   obtain ⟨p,vs,rfl,h1,h2⟩:=ht
   cases rv
   obtain ⟨its,r1,p1,_⟩:=I.tuple h1
   cases u with
   | dk _ _=>simp only [plainT] at pu; cases pu
   | dt _ _=>simp only [plainT] at pu; cases pu
   | df _ _ _=>simp only [plainT] at pu; cases pu
   | dz _ _ _=>simp only [plainT] at pu; cases pu
   | kt _=>simp only [plainT] at pu; cases pu
   | ins _ _ _=>simp only [plainT] at pu; cases pu
   | pin _ _=>simp only [plainT] at pu; cases pu
   | ob _=>simp only [plainT] at pu; cases pu
   | ty _=>simp only [plainT] at pu; cases pu
   | non =>
     simp only [At] at hw; subst hw; cases rw'
     simp only [eqT]
     exact SeqAt.RcNeAt.tuple_none p1 hu'
   | bl c =>
     simp only [At] at hw; subst hw; cases rw'
     simp only [eqT]
     exact SeqAt.RcNeAt.tuple_bool c p1 hu'
   | int c =>
     simp only [At] at hw; subst hw; obtain ⟨t2,rfl⟩:=rw'
     simp only [eqT]
     exact SeqAt.RcNeAt.tuple_int c t2 p1 hu'
   | str c =>
     simp only [At] at hw; subst hw; obtain ⟨t2,rfl⟩:=rw'
     simp only [eqT]
     exact SeqAt.RcNeAt.tuple_str c t2 p1 hu'
   | tup l' =>
     simp only [At] at hw
     obtain ⟨p',ws,rfl,g1,g2⟩:=hw
     cases rw'
     obtain ⟨its2,r2,p2,_⟩:=I.tuple g1
     simp only [eqT]
     simp only [plainT] at pu
     have e1:=r1.length
     have e2:=r2.length
     have e3:=h2.length
     have e4:=g2.length
     have:=SeqAt.RcNeAt.tuples (A:=A) p1 p2 hu' (items_eq I h2 g2 r1 r2 fun j x y v w u u' e1 e2 a1 a2 b1 b2=>eqAt_T I 100 x y v w u u' A.in1 (Nat.le_trans (deps_le e1) (by omega)) hu1 (plains_get pt e1) (plains_get pu e2) a1 a2 b1 b2)
     simp only [List.size_toArray] at this
     rw [← e1,← e2,e3,e4] at this
     rw [eqTs_min]
     exact this
   | lst l' =>
     simp only [At] at hw
     obtain ⟨p',ws,rfl,g1,g2⟩:=hw
     cases rw'
     obtain ⟨its2,r2,p2,_⟩:=I.list g1.sq
     simp only [eqT]
     exact SeqAt.RcNeAt.tuple_list p1 p2.isList hu'
 | lst l =>
   simp only [plainT] at pt
   simp only [dep] at hd
   simp only [At] at ht
   obtain ⟨p,vs,rfl,h1,h2⟩:=ht
   cases rv
   obtain ⟨its,r1,p1,_⟩:=I.list h1.sq
   cases u with
   | dk _ _=>simp only [plainT] at pu; cases pu
   | dt _ _=>simp only [plainT] at pu; cases pu
   | df _ _ _=>simp only [plainT] at pu; cases pu
   | dz _ _ _=>simp only [plainT] at pu; cases pu
   | kt _=>simp only [plainT] at pu; cases pu
   | ins _ _ _=>simp only [plainT] at pu; cases pu
   | pin _ _=>simp only [plainT] at pu; cases pu
   | ob _=>simp only [plainT] at pu; cases pu
   | ty _=>simp only [plainT] at pu; cases pu
   | non =>
     simp only [At] at hw; subst hw; cases rw'
     simp only [eqT]
     exact SeqAt.RcNeAt.list_none p1.isList hu'
   | bl c =>
     simp only [At] at hw; subst hw; cases rw'
     simp only [eqT]
     exact SeqAt.RcNeAt.list_bool c p1.isList hu'
   | int c =>
     simp only [At] at hw; subst hw; obtain ⟨t2,rfl⟩:=rw'
     simp only [eqT]
     exact SeqAt.RcNeAt.list_int c t2 p1.isList hu'
   | str c =>
     simp only [At] at hw; subst hw; obtain ⟨t2,rfl⟩:=rw'
     simp only [eqT]
     exact SeqAt.RcNeAt.list_str c t2 p1.isList hu'
   | tup l' =>
     simp only [At] at hw
     obtain ⟨p',ws,rfl,g1,g2⟩:=hw
     cases rw'
     obtain ⟨its2,r2,p2,_⟩:=I.tuple g1
     simp only [eqT]
     exact SeqAt.RcNeAt.list_tuple p1.isList p2 hu'
   | lst l' =>
     simp only [At] at hw
     obtain ⟨p',ws,rfl,g1,g2⟩:=hw
     cases rw'
     obtain ⟨its2,r2,p2,_⟩:=I.list g1.sq
     simp only [eqT]
     simp only [plainT] at pu
     have e1:=r1.length
     have e2:=r2.length
     have e3:=h2.length
     have e4:=g2.length
     by_cases hl:l.length=l'.length
     · have:=SeqAt.RcNeAt.lists (A:=A) p1.isList p2.isList (by simp only [List.size_toArray]; omega) hu' (items_eq I h2 g2 r1 r2 fun j x y v w u u' e1 e2 a1 a2 b1 b2=>eqAt_T I 100 x y v w u u' A.in1 (Nat.le_trans (deps_le e1) (by omega)) hu1 (plains_get pt e1) (plains_get pu e2) a1 a2 b1 b2)
       simp only [List.size_toArray] at this
       rw [← e1,e3] at this
       rw [eqTs_all hl]
       exact this
     · have:eqTs l l'=false:=by
        cases q:eqTs l l' with
        | false=>rfl
        | true=>exact absurd (eqTs_len q) hl
       rw [this]
       exact SeqAt.RcNeAt.lists_lengths p1.isList p2.isList (by simp only [List.size_toArray]; rw [bne_iff_ne]; omega) hu'
theorem AtR.bare {K:PySem.W.Frag} {H:Hp} {A:List Addr} {t:T} {v:V} (h:AtR K H A t v):At K H [] t v:=by
 rcases h with h | ⟨a,rfl,h⟩
 · exact At.fewer (O':=[]) (fun _ z=>absurd z List.not_mem_nil) h
 · exact (Root.fewer (A':=[]) h (fun _ z=>absurd z List.not_mem_nil)).at List.not_mem_nil
noncomputable def rEqT (K:PySem.W.Frag) (neg:Bool):R2:=fun x y H Q=>∃ t u,At K H [] t x∧At K H [] u y∧plainT t=true∧plainT u=true∧dep t≤100∧Q (.bl (if neg then !eqT t u else eqT t u)) H
theorem op_eqT (hu:X.A.units+101 < cLine):OpR X (compareOp .Eq) (rEqT X.K false):=by
 intro pins s σ H x y v u Q I rx ry ⟨t,t',h1,h2,p1,p2,d,q⟩
 exact rcAt_T I t t' x y v u X.A d hu p1 p2 h1 h2 rx ry X.prog X.w X.xe _ ⟨.bl _,H,I,rfl,q⟩
theorem op_neT (hu:X.A.units+101 < cLine):OpR X (compareOp .NotEq) (rEqT X.K true):=by
 intro pins s σ H x y v u Q I rx ry ⟨t,t',h1,h2,p1,p2,d,q⟩
 exact rcNe_T I t t' x y v u X.A d hu p1 p2 h1 h2 rx ry X.prog X.w X.xe _ ⟨.bl _,H,I,rfl,q⟩
end
noncomputable def pEq (x y:T) (q:Rt→Prop):Prop:=match x,y with
 | .int i,.int j=>q (.vw (.bl (decide (i=j))))
 | .str i,.str j=>q (.vw (.bl (decide (i=j))))
 | .bl i,.bl j=>q (.vw (.bl (decide (i=j))))
 | x,y=>plainT x=true∧plainT y=true∧dep x≤100∧q (.vw (.bl (eqT x y)))
noncomputable def pNe (x y:T) (q:Rt→Prop):Prop:=match x,y with
 | .int i,.int j=>q (.vw (.bl (!decide (i=j))))
 | .str i,.str j=>q (.vw (.bl (!decide (i=j))))
 | .bl i,.bl j=>q (.vw (.bl (!decide (i=j))))
 | x,y=>plainT x=true∧plainT y=true∧dep x≤100∧q (.vw (.bl (!eqT x y)))
theorem pEq_gen {x y:T} {q:Rt→Prop} (h:pEq x y q):plainT x=true∧plainT y=true∧dep x≤100∧q (.vw (.bl (eqT x y))):=by
 unfold pEq at h
 split at h
 · exact ⟨rfl,rfl,Nat.zero_le _,by simp only [eqT,Bool.beq_eq_decide_eq]; exact h⟩
 · refine ⟨rfl,rfl,Nat.zero_le _,?_⟩
   have e:∀ i j:Str,(i == j)=decide (i=j):=fun i j=>by rw [Bool.eq_iff_iff]; simp
   simp only [eqT,e]; exact h
 · exact ⟨rfl,rfl,Nat.zero_le _,by simp only [eqT,Bool.beq_eq_decide_eq]; exact h⟩
 · exact h
theorem pNe_gen {x y:T} {q:Rt→Prop} (h:pNe x y q):plainT x=true∧plainT y=true∧dep x≤100∧q (.vw (.bl (!eqT x y))):=by
 unfold pNe at h
 split at h
 · exact ⟨rfl,rfl,Nat.zero_le _,by simp only [eqT,Bool.beq_eq_decide_eq]; exact h⟩
 · refine ⟨rfl,rfl,Nat.zero_le _,?_⟩
   have e:∀ i j:Str,(i == j)=decide (i=j):=fun i j=>by rw [Bool.eq_iff_iff]; simp
   simp only [eqT,e]; exact h
 · exact ⟨rfl,rfl,Nat.zero_le _,by simp only [eqT,Bool.beq_eq_decide_eq]; exact h⟩
 · exact h
theorem opT_eq {K:PySem.W.Frag}:OpT K (rEqT K false) pEq:=by
 intro Z tm O ρ σ H x y v w q Q I h1 h2 h k
 obtain ⟨p1,p2,d,h⟩:=pEq_gen h
 exact ⟨x,y,h1.bare,h2.bare,p1,p2,d,k _ h _ H (Same.refl H) ⟨I,by rw [if_neg Bool.false_ne_true]; exact at_bl⟩⟩
theorem opT_ne {K:PySem.W.Frag}:OpT K (rEqT K true) pNe:=by
 intro Z tm O ρ σ H x y v w q Q I h1 h2 h k
 obtain ⟨p1,p2,d,h⟩:=pNe_gen h
 exact ⟨x,y,h1.bare,h2.bare,p1,p2,d,k _ h _ H (Same.refl H) ⟨I,by rw [if_pos rfl]; exact at_bl⟩⟩
end VT
namespace VT
open PySem PySem.Spec PyProof.Rows L2
section
variable {K:PySem.W.Frag}
end
noncomputable def pSub (x y:T) (q:Rt→Prop):Prop:=match x,y with
 | .int i,.int j=>q (.vw (.int (i - j)))
 | _,_=>False
theorem opT_Sub {K:PySem.W.Frag}:OpT K (rI0 fun i j=>.int (i - j)) pSub:=by
 intro Z tm O ρ σ H x y v w q Q I h1 h2 h k
 unfold pSub at h
 split at h
 · exact ⟨_,_,h1.int,h2.int,k _ h _ H (Same.refl H) ⟨I,at_int⟩⟩
 · exact h.elim
noncomputable def pMul (x y:T) (q:Rt→Prop):Prop:=match x,y with
 | .int i,.int j=>CMul i j∧q (.vw (.int (i * j)))
 | _,_=>False
theorem opT_Mul {K:PySem.W.Frag}:OpT K (rI CMul fun i j=>.int (i * j)) pMul:=by
 intro Z tm O ρ σ H x y v w q Q I h1 h2 h k
 unfold pMul at h
 split at h
 · exact ⟨_,_,h1.int,h2.int,h.1,k _ h.2 _ H (Same.refl H) ⟨I,at_int⟩⟩
 · exact h.elim
noncomputable def pDiv (x y:T) (q:Rt→Prop):Prop:=match x,y with
 | .int i,.int j=>(0 < j∧j < 1073741824)∧q (.vw (.int (i / j)))
 | _,_=>False
theorem opT_Div {K:PySem.W.Frag}:OpT K (rI CDiv fun i j=>.int (i / j)) pDiv:=by
 intro Z tm O ρ σ H x y v w q Q I h1 h2 h k
 unfold pDiv at h
 split at h
 · exact ⟨_,_,h1.int,h2.int,h.1,k _ h.2 _ H (Same.refl H) ⟨I,at_int⟩⟩
 · exact h.elim
noncomputable def pMod (x y:T) (q:Rt→Prop):Prop:=match x,y with
 | .int i,.int j=>0 < j∧q (.vw (.int (i % j)))
 | _,_=>False
theorem opT_Mod {K:PySem.W.Frag}:OpT K (rI (fun _ j=>0 < j) fun i j=>.int (i % j)) pMod:=by
 intro Z tm O ρ σ H x y v w q Q I h1 h2 h k
 unfold pMod at h
 split at h
 · exact ⟨_,_,h1.int,h2.int,h.1,k _ h.2 _ H (Same.refl H) ⟨I,at_int⟩⟩
 · exact h.elim
noncomputable def pPow (x y:T) (q:Rt→Prop):Prop:=match x,y with
 | .int i,.int j=>(0≤j∧j≤1000000∧i.natAbs < 2 ^ 64)∧q (.vw (.int (i ^ j.toNat)))
 | _,_=>False
theorem opT_Pow {K:PySem.W.Frag}:OpT K (rI CPow fun i j=>.int (i ^ j.toNat)) pPow:=by
 intro Z tm O ρ σ H x y v w q Q I h1 h2 h k
 unfold pPow at h
 split at h
 · exact ⟨_,_,h1.int,h2.int,h.1,k _ h.2 _ H (Same.refl H) ⟨I,at_int⟩⟩
 · exact h.elim
noncomputable def pShl (x y:T) (q:Rt→Prop):Prop:=match x,y with
 | .int i,.int j=>(0≤j∧j≤1000000∧i.natAbs < 2 ^ 64)∧q (.vw (.int (i * 2 ^ j.toNat)))
 | _,_=>False
theorem opT_Shl {K:PySem.W.Frag}:OpT K (rI CPow fun i j=>.int (i * 2 ^ j.toNat)) pShl:=by
 intro Z tm O ρ σ H x y v w q Q I h1 h2 h k
 unfold pShl at h
 split at h
 · exact ⟨_,_,h1.int,h2.int,h.1,k _ h.2 _ H (Same.refl H) ⟨I,at_int⟩⟩
 · exact h.elim
noncomputable def pBor (x y:T) (q:Rt→Prop):Prop:=match x,y with
 | .int i,.int j=>q (.vw (.int (Builtin.bitOr i j)))
 | _,_=>False
theorem opT_Bor {K:PySem.W.Frag}:OpT K (rI0 fun i j=>.int (Builtin.bitOr i j)) pBor:=by
 intro Z tm O ρ σ H x y v w q Q I h1 h2 h k
 unfold pBor at h
 split at h
 · exact ⟨_,_,h1.int,h2.int,k _ h _ H (Same.refl H) ⟨I,at_int⟩⟩
 · exact h.elim
noncomputable def pLt (x y:T) (q:Rt→Prop):Prop:=match x,y with
 | .int i,.int j=>q (.vw (.bl (decide (i < j))))
 | _,_=>False
theorem opT_Lt {K:PySem.W.Frag}:OpT K (rI0 fun i j=>.bl (decide (i < j))) pLt:=by
 intro Z tm O ρ σ H x y v w q Q I h1 h2 h k
 unfold pLt at h
 split at h
 · exact ⟨_,_,h1.int,h2.int,k _ h _ H (Same.refl H) ⟨I,at_bl⟩⟩
 · exact h.elim
noncomputable def pGt (x y:T) (q:Rt→Prop):Prop:=match x,y with
 | .int i,.int j=>q (.vw (.bl (decide (j < i))))
 | _,_=>False
theorem opT_Gt {K:PySem.W.Frag}:OpT K (rI0 fun i j=>.bl (decide (j < i))) pGt:=by
 intro Z tm O ρ σ H x y v w q Q I h1 h2 h k
 unfold pGt at h
 split at h
 · exact ⟨_,_,h1.int,h2.int,k _ h _ H (Same.refl H) ⟨I,at_bl⟩⟩
 · exact h.elim
noncomputable def pAddI (x y:T) (q:Rt→Prop):Prop:=match x,y with
 | .int i,.int j=>q (.vw (.int (i+j)))
 | _,_=>False
theorem opT_AddI {K:PySem.W.Frag}:OpT K (rI0 fun i j=>.int (i+j)) pAddI:=by
 intro Z tm O ρ σ H x y v w q Q I h1 h2 h k
 unfold pAddI at h
 split at h
 · exact ⟨_,_,h1.int,h2.int,k _ h _ H (Same.refl H) ⟨I,at_int⟩⟩
 · exact h.elim
noncomputable def rCatL (K:PySem.W.Frag):R2:=fun x y H Q=>∃ l b xs zs,x = .ref l∧y = .ref b∧SqL K H l xs∧SqL K H b zs∧xs.length+zs.length≤sizeLine∧∀ p,H p=none→Q (.ref p) (upd H p (.lst (xs ++ zs)))
noncomputable def rCatU (K:PySem.W.Frag):R2:=fun x y H Q=>∃ a b xs ys,x = .ref a∧y = .ref b∧SqT K H a xs∧SqT K H b ys∧xs.length+ys.length≤sizeLine∧(xs=[]→Q (.ref b) H)∧(xs≠[]→ys=[]→Q (.ref a) H)∧(xs≠[]→ys≠[]→∀ p,H p=none→Q (.ref p) (upd H p (.tup (xs ++ ys))))
section
variable {X:Cx}
theorem op_catL:OpR X (binaryOp .Add) (rCatL X.K):=by
 intro pins s σ H x y v u Q I rx ry h
 obtain ⟨l,b,xs,zs,rfl,rfl,hH,hB,hz,q⟩:=h
 cases rx
 cases ry
 obtain ⟨its,r,p1,z1⟩:=I.list hH
 obtain ⟨its2,r2,p2,z2⟩:=I.list hB
 obtain ⟨⟨cls,dd,data,sl⟩,n,ho,hc,_,hd⟩:=p1
 obtain ⟨⟨cls2,dd2,data2,sl2⟩,n2,ho2,hc2,_,hd2⟩:=p2
 simp only at hc hd hc2 hd2
 subst hc hd hc2 hd2
 have l1:=r.length
 have l2:=r2.length
 have e:its.toArray ++ its2.toArray=(its ++ its2).toArray:=by simp
 refine concat_meets ⟨_,ho,rfl⟩ ⟨_,ho2,rfl⟩ noFill_list_add seq_list_add PySem.F.slot_list_add PySem.F.entry_list_add (PySem.F.args_list_add_2 _ _) (list_addW l b its.toArray its2.toArray n n2 dd dd2 sl sl2 (by simp only [List.size_toArray]; omega)) ⟨ho,ho2,?_⟩
 rw [e]
 exact ⟨.ref _,_,I.lnew (t':=s.toks) (r.append r2) (by rw [List.length_append]; omega),rfl,q _ I.fresh⟩
theorem op_catU:OpR X (binaryOp .Add) (rCatU X.K):=by
 intro pins s σ H x y v u Q I rx ry h
 obtain ⟨a,b,xs,ys,rfl,rfl,ha,hb,hz,q0,q1,q2⟩:=h
 cases rx
 cases ry
 obtain ⟨its,r1,p1,_⟩:=I.tuple ha
 obtain ⟨its2,r2,p2,_⟩:=I.tuple hb
 by_cases hx:xs=[]
 · obtain ⟨⟨cls,dd,data,sl⟩,ho,hc,n,hd⟩:=id p1
   obtain ⟨⟨cls2,dd2,data2,sl2⟩,ho2,hc2,n2,hd2⟩:=id p2
   simp only at hc hd hc2 hd2
   subst hc hd hc2 hd2
   exact concat_meets ⟨_,ho,rfl⟩ ⟨_,ho2,rfl⟩ noFill_tuple_add seq_tuple_add PySem.F.slot_tuple_add PySem.F.entry_tuple_add (PySem.F.args_tuple_add_2 _ _)
    (tuple_addW0 a b its.toArray its2.toArray n n2 dd dd2 sl sl2 (by simp [r1.nil_iff.mpr hx])) ⟨ho,ho2,⟨.ref b,H,I,rfl,q0 hx⟩⟩
 · refine HT.cat_tup p1 p2 (fun z=>hx (r1.nil_iff.mp z)) (fun z=>⟨.ref a,H,I,rfl,q1 hx (r2.nil_iff.mp z)⟩) (fun z=>?_) (by rw [← r1.length,← r2.length]; exact hz)
   refine ⟨.ref s.heap.objs.size,_,I.laid (t':=s.toks) (o:=.tup (xs ++ ys)) (fun b ob q=>Heap.get?_push_of_some _ q) (Nat.le_refl _) ?_,rfl,q2 hx (fun w=>z (r2.nil_iff.mpr w)) _ (I.hok.fresh (Nat.le_refl _))⟩
   exact ⟨by rw [List.length_append]; exact hz,_,r1.append r2,IsTup.new _ _⟩
end
noncomputable def rAddU (K:PySem.W.Frag):R2:=fun x y H Q=>rI0 (fun i j=>.int (i+j)) x y H Q∨(fun x y H Q=>∃ i j,x = .str i∧y = .str j∧i.length+j.length≤sizeLine∧Q (.str (i ++ j)) H) x y H Q∨rCatL K x y H Q∨rCatU K x y H Q
theorem op_addU {X:Cx}:OpR X (binaryOp .Add) (rAddU X.K):=OpR.or op_add (OpR.or op_add_str (OpR.or op_catL op_catU))
noncomputable def pAdd (x y:T) (q:Rt→Prop):Prop:=match x,y with
 | .int i,.int j=>q (.vw (.int (i+j)))
 | .str i,.str j=>i.length+j.length≤sizeLine∧q (.vw (.str (i ++ j)))
 | .lst a,.lst b=>a.length+b.length≤sizeLine∧q (.fr (.lst (a ++ b)))
 | .tup a,.tup b=>a.length+b.length≤sizeLine∧q (.vw (.tup (a ++ b)))
 | _,_=>False
theorem opT_add {K:PySem.W.Frag}:OpT K (rAddU K) pAdd:=by
 intro Z tm O ρ σ H x y v w q Q I h1 h2 h k
 unfold pAdd at h
 split at h
 · exact .inl ⟨_,_,h1.int,h2.int,k _ h _ H (Same.refl H) ⟨I,at_int⟩⟩
 · exact .inr (.inl ⟨_,_,h1.str,h2.str,h.1,k _ h.2 _ H (Same.refl H) ⟨I,at_str⟩⟩)
 · obtain ⟨a,vs,rfl,s1,a1⟩:=h1.lst
   obtain ⟨b,ws,rfl,s2,a2⟩:=h2.lst
   exact .inr (.inr (.inl ⟨a,b,vs,ws,rfl,rfl,s1,s2,by rw [a1.length,a2.length]; exact h.1,fun p hp=>k _ h.2 _ _ (same_upd hp) (I.newL hp (a1.append a2))⟩))
 · obtain ⟨a,vs,rfl,s1,a1⟩:=h1.tup
   obtain ⟨b,ws,rfl,s2,a2⟩:=h2.tup
   refine .inr (.inr (.inr ⟨a,b,vs,ws,rfl,rfl,s1,s2,by rw [a1.length,a2.length]; exact h.1,fun e=>?_,fun _ e=>?_,fun _ _ p hp=>?_⟩))
   · subst e
     have e:=a1.length
     rename_i xs ys
     have e':xs=[]:=List.length_eq_zero_iff.mp e.symm
     subst e'
     exact k _ h.2 _ H (Same.refl H) ⟨I,at_tup s2 a2⟩
   · subst e
     have e:=a2.length
     rename_i xs ys _
     have e':ys=[]:=List.length_eq_zero_iff.mp e.symm
     subst e'
     exact k _ h.2 _ H (Same.refl H) ⟨I,by rw [List.append_nil]; exact at_tup s1 a1⟩
   · exact k _ h.2 _ _ (same_upd hp) ⟨I.same (same_upd hp),at_tup (SqT.of upd_same) ((a1.append a2).same (same_upd hp))⟩
 · exact h.elim
section
variable {X:Cx} {Z:Zc} {e a b:Expr} {es:List Expr} {pos:Pos} {fa fb:FE}
theorem vp_add (ha:VR X Z a fa) (hb:VR X Z b fb):VP X Z (.BinOp a .Add b pos) (f2 fa fb pAdd):=vp_bin op_addU opT_add ha hb
theorem vp_sub (ha:VR X Z a fa) (hb:VR X Z b fb):VP X Z (.BinOp a .Sub b pos) (f2 fa fb pSub):=vp_bin op_sub opT_Sub ha hb
theorem vp_mul (ha:VR X Z a fa) (hb:VR X Z b fb):VP X Z (.BinOp a .Mult b pos) (f2 fa fb pMul):=vp_bin op_mul opT_Mul ha hb
theorem vp_fdiv (ha:VR X Z a fa) (hb:VR X Z b fb):VP X Z (.BinOp a .FloorDiv b pos) (f2 fa fb pDiv):=vp_bin op_fdiv opT_Div ha hb
theorem vp_mod (ha:VR X Z a fa) (hb:VR X Z b fb):VP X Z (.BinOp a .Mod b pos) (f2 fa fb pMod):=vp_bin op_mod opT_Mod ha hb
theorem vp_pow (ha:VR X Z a fa) (hb:VR X Z b fb):VP X Z (.BinOp a .Pow b pos) (f2 fa fb pPow):=vp_bin op_pow opT_Pow ha hb
theorem vp_shl (ha:VR X Z a fa) (hb:VR X Z b fb):VP X Z (.BinOp a .LShift b pos) (f2 fa fb pShl):=vp_bin op_shl opT_Shl ha hb
theorem vp_bor (ha:VR X Z a fa) (hb:VR X Z b fb):VP X Z (.BinOp a .BitOr b pos) (f2 fa fb pBor):=vp_bin op_or opT_Bor ha hb
noncomputable def fNeg (f:FE):FP:=fun ρ Q=>f ρ fun x=>match x with
 | .int i=>Q (.vw (.int (-i)))
 | _=>False
theorem vp_neg (ha:VR X Z a fa):VP X Z (.UnaryOp .USub a pos) (fNeg fa):=.mk fun tm=>PE.weak (pe_un un_neg (ha tm)) fun σ H Q ⟨ρ,O,q,I,hf,k⟩=>⟨ρ,O,_,I,hf,fun t ht v H1 s1 a1=>by
 split at ht
 · exact ⟨_,a1.int,k _ ht _ H1 s1 ⟨I.same s1,at_int⟩⟩
 · exact ht.elim⟩
theorem vp_eq (hu:X.A.units+101 < cLine) (ha:VR X Z a fa) (hb:VR X Z b fb):VP X Z (.Compare a [.Eq] [b] pos) (f2 fa fb pEq):=vp_cmp (op_eqT hu) opT_eq ha hb (nomark _)
theorem vp_ne (hu:X.A.units+101 < cLine) (ha:VR X Z a fa) (hb:VR X Z b fb):VP X Z (.Compare a [.NotEq] [b] pos) (f2 fa fb pNe):=vp_cmp (op_neT hu) opT_ne ha hb (nomark _)
theorem vc_eq (hu:X.A.units+101 < cLine) (ha:VR X Z a fa) (hb:VR X Z b fb):VC X Z (.Compare a [.Eq] [b] pos) (fTst (f2 fa fb pEq)):=vc_cmp (op_eqT hu) opT_eq ha hb (nomark _)
theorem vc_ne (hu:X.A.units+101 < cLine) (ha:VR X Z a fa) (hb:VR X Z b fb):VC X Z (.Compare a [.NotEq] [b] pos) (fTst (f2 fa fb pNe)):=vc_cmp (op_neT hu) opT_ne ha hb (nomark _)
theorem vc_lt (ha:VR X Z a fa) (hb:VR X Z b fb):VC X Z (.Compare a [.Lt] [b] pos) (fTst (f2 fa fb pLt)):=vc_cmp op_lt opT_Lt ha hb (nomark _)
theorem vc_gt (ha:VR X Z a fa) (hb:VR X Z b fb):VC X Z (.Compare a [.Gt] [b] pos) (fTst (f2 fa fb pGt)):=vc_cmp op_gt opT_Gt ha hb (nomark _)
noncomputable def f3 (fa fb fc:FE) (p p':T→T→(Rt→Prop)→Prop):FP:=fun ρ Q=>fa ρ fun x=>fb ρ fun y=>p x y fun r=>match r with
 | .vw (.bl true)=>fc ρ fun z=>p' y z Q
 | .vw (.bl false)=>Q (.vw (.bl false))
 | _=>False
end
theorem atI_at {K:PySem.W.Frag} {H:Hp} {A:List Addr} {ts:List T} {vs:List V} {i:Int} {t:T} (h:AtL K H A ts vs) (e:atI ts i=some t):∃ v,atI vs i=some v∧At K H A t v:=by
 unfold atI at e ⊢
 rw [h.length]
 cases q:ixN ts.length i with
 | none=>rw [q] at e; cases e
 | some j =>
   rw [q] at e
   obtain ⟨v,h1,h2⟩:=h.get (i:=j) e
   exact ⟨v,h1,h2⟩
noncomputable def pIx (x y:T) (q:Rt→Prop):Prop:=match x,y with
 | .lst ts,.int i=>∃ t,atI ts i=some t∧q (.vw t)
 | .tup ts,.int i=>∃ t,atI ts i=some t∧q (.vw t)
 | .str z,.int i=>z.length≤sizeLine∧∃ c,atI z.cps.toList i=some c∧q (.vw (.str ⟨#[c]⟩))
 | _,_=>False
theorem opT_ix {K:PySem.W.Frag}:OpT K (rIx K) pIx:=by
 intro Z tm O ρ σ H x y v w q Q I h1 h2 h k
 unfold pIx at h
 split at h
 · obtain ⟨t,e,h⟩:=h
   obtain ⟨a,vs,rfl,s1,a1⟩:=h1.lst
   obtain ⟨u,e',a2⟩:=atI_at a1 e
   exact .inl ⟨a,vs,_,u,rfl,h2.int,s1,e',k _ h _ H (Same.refl H) ⟨I,a2⟩⟩
 · obtain ⟨t,e,h⟩:=h
   obtain ⟨a,vs,rfl,s1,a1⟩:=h1.tup
   obtain ⟨u,e',a2⟩:=atI_at a1 e
   exact .inr (.inl ⟨a,vs,_,u,rfl,h2.int,s1,e',k _ h _ H (Same.refl H) ⟨I,a2⟩⟩)
 · obtain ⟨hz,c,e,h⟩:=h
   exact .inr (.inr ⟨_,_,c,h1.str,h2.int,hz,e,k _ h _ H (Same.refl H) ⟨I,at_str⟩⟩)
 · exact h.elim
section
variable {X:Cx} {Z:Zc} {e a b:Expr} {es:List Expr} {pos:Pos} {fa fb:FE}
theorem vp_ix (ha:VR X Z a fa) (hb:VR X Z b fb) (hs:PlainIx b:=by exact fun _ _=>rfl):VP X Z (.Subscript a b pos) (f2 fa fb pIx) :=
 .mk fun tm=>PE.weak (pe_ix ix_seq (ha tm) (hb tm) hs) (two opT_ix)
end
noncomputable abbrev FO:=En→(Option Int→Prop)→Prop
noncomputable def lO (X:Cx) (Z:Zc) (tm:List (T×V)) (f:FO):TO:=fun σ H Q=>∃ ρ O q,EnvAt X.K Z tm O ρ σ H∧f ρ q∧∀ o,q o→∀ H',Same H H'→Q o H'
noncomputable def VO (X:Cx) (Z:Zc) (e:Option Expr) (f:FO):Prop:=Bx fun tm=>PO X e (lO X Z tm f)
noncomputable instance {X:Cx} {Z:Zc} {e:Option Expr} {f:FO}:CoeFun (VO X Z e f) fun _=>∀ tm,PO X e (lO X Z tm f):=⟨fun h=>Bx.h h⟩
theorem PO.weak {X:Cx} {e:Option Expr} {t t':TO} (h:PO X e t) (hw:∀ σ H Q,t' σ H Q→t σ H Q):PO X e t':=fun pins s σ H Q I q=>h pins s σ H Q I (hw _ _ _ q)
noncomputable def fO1 (f:FE):FO:=fun ρ Q=>f ρ fun t=>match t with
 | .int i=>Q (some i)
 | _=>False
noncomputable def cutT {α:Type} (xs:List α) (lo hi:Option Int):List α:=(xs.drop (HT.sIx xs.length 0 lo)).take (HT.sIx xs.length xs.length hi - HT.sIx xs.length 0 lo)
theorem AtL.cut {K:PySem.W.Frag} {H:Hp} {A:List Addr} {ts:List T} {vs:List V} (h:AtL K H A ts vs) (lo hi:Option Int):AtL K H A (cutT ts lo hi) (cutV vs lo hi):=by
 unfold cutT cutV
 rw [h.length]
 exact (h.drop _).take _
noncomputable def rSlU (K:PySem.W.Frag):V→Option Int→Option Int→Hp→VK→Prop:=fun x lo hi H Q=>rSlL K x lo hi H Q∨rSlT K x lo hi H Q∨rSlS x lo hi H Q
theorem sl_U {X:Cx}:SlR X (rSlU X.K):=SlR.or sl_list (SlR.or sl_tup sl_str)
noncomputable def pSl (x:T) (lo hi:Option Int) (q:Rt→Prop):Prop:=match x with
 | .lst ts=>q (.fr (.lst (cutT ts lo hi)))
 | .tup ts=>¬ (HT.sIx ts.length 0 lo=0∧HT.sIx ts.length ts.length hi=ts.length)∧q (.vw (.tup (cutT ts lo hi)))
 | .str z=>z.length≤sizeLine∧q (.vw (.str (Txt.slice z lo hi)))
 | _=>False
noncomputable def fSl (fa:FE) (fl fh:FO):FP:=fun ρ Q=>fa ρ fun x=>fl ρ fun lo=>fh ρ fun hi=>pSl x lo hi Q
section
variable {X:Cx} {Z:Zc} {e a b:Expr} {lo hi:Option Expr} {pos p2:Pos} {fa:FE} {fl fh:FO}
theorem vo_some (h:VR X Z e fa):VO X Z (some e) (fO1 fa):=.mk fun tm=>PO.weak (po_some (h tm)) fun σ H Q ⟨ρ,O,q,I,hf,k⟩=>⟨ρ,O,_,I,hf,fun t ht v H' s z=>by
 split at ht
 · exact ⟨_,z.int,k _ ht H' s⟩
 · exact ht.elim⟩
theorem vp_slice (he:VR X Z e fa) (hl:VO X Z lo fl) (hh:VO X Z hi fh):VP X Z (.Subscript e (.Slice lo hi none p2) pos) (fSl fa fl fh) :=
 .mk fun tm=>PE.weak (pe_slice sl_U (he tm) (hl tm) (hh tm)) fun σ H Q ⟨ρ,O,q,I,hf,k⟩=>⟨ρ,O,_,I,hf,fun x hx v H1 s1 a1=>⟨ρ,O,_,I.same s1,hx,fun l hl H2 s2=>⟨ρ,O,_,(I.same s1).same s2,hl,fun u hu H3 s3=>by
  have J:=((I.same s1).same s2).same s3
  have a3:=(a1.same s2).same s3
  have S:=(s1.trans s2).trans s3
  unfold pSl at hu
  split at hu
  · obtain ⟨p,vs,rfl,q1,q2⟩:=a3.lst
    exact .inl ⟨p,vs,rfl,q1,fun r hr=>k _ hu _ _ (S.trans (same_upd hr)) (J.newL hr (q2.cut _ _))⟩
  · obtain ⟨p,vs,rfl,q1,q2⟩:=a3.tup
    refine .inr (.inl ⟨p,vs,rfl,q1,by rw [q2.length]; exact hu.1,fun r hr=>k _ hu.2 _ _ (S.trans (same_upd hr)) ⟨J.same (same_upd hr),at_tup (SqT.of upd_same) ((q2.cut _ _).same (same_upd hr))⟩⟩)
  · exact .inr (.inr ⟨_,a3.str,hu.1,k _ hu.2 _ H3 S ⟨J,at_str⟩⟩)
  · exact hu.elim⟩⟩⟩
end
noncomputable def fCall (g:FA) (p:List T→(Rt→Prop)→Prop):FP:=fun ρ Q=>g ρ fun ts=>p ts Q
noncomputable def CallT (K:PySem.W.Frag) (r:List V→Hp→VK→Prop) (p:List T→(Rt→Prop)→Prop):Prop :=
 ∀ (Z:Zc) (tm:List (T×V)) (O:List (Option Addr)) (ρ:En) (σ:St) (H:Hp) (ts:List T) (vs:List V) (q:Rt→Prop) (Q:VK),EnvAt K Z tm O ρ σ H→Paired (fun v t=>AtR K H (av Z O) t v) vs ts→p ts q →
  (∀ t,q t→∀ u H',Same H H'→RetX K Z tm O ρ σ H' t u→Q u H')→r vs H Q
section
variable {X:Cx} {Z:Zc} {e a b:Expr} {es:List Expr} {pos p:Pos} {g:FA} {x:Str} {id Ty:String} {r:List V→Hp→VK→Prop} {pp:List T→(Rt→Prop)→Prop}
theorem vp_callB (hc:CallR X (.builtin id) r) (ht:CallT X.K r pp) (hg:Gl X x) (hm:X.mg x=none) (hv:bootBuiltins x=some (.builtin id)) (ha:VAR X Z (e :: es) g) (hn:x≠"__name__":=by decide) (hdb:(x == ("__debug__" : Str))=false:=by decide)
  (hs:starEach (e :: es) X.env=(false,eval e X.env) :: starEach es X.env:=by rfl) (hpl:(backTo pos (starEach es X.env)).any (·.1)=false:=by rfl):VP X Z (.Call (.Name x p) (e :: es) [] pos) (fCall g pp) :=
 .mk fun tm=>PE.weak (pe_callB hc hg hm hv (ha tm) hn hdb hs hpl) fun σ H Q ⟨ρ,O,q,I,hf,k⟩=>⟨ρ,O,_,I,hf,fun ts hts vs H1 s1 a1=>ht Z tm O ρ σ H1 ts vs q _ (I.same s1) a1 hts fun t h u H' s z=>k t h u H' (s1.trans s) z⟩
theorem vp_callTy (hc:CallR X (.type Ty) r) (ht:CallT X.K r pp) (hg:Gl X x) (hm:X.mg x=none) (hv:bootBuiltins x=some (.type Ty)) (ha:VAR X Z (e :: es) g) (hn:x≠"__name__":=by decide) (hdb:(x == ("__debug__" : Str))=false:=by decide)
  (hs:starEach (e :: es) X.env=(false,eval e X.env) :: starEach es X.env:=by rfl) (hpl:(backTo pos (starEach es X.env)).any (·.1)=false:=by rfl):VP X Z (.Call (.Name x p) (e :: es) [] pos) (fCall g pp) :=
 .mk fun tm=>PE.weak (pe_callTy hc hg hm hv (ha tm) hn hdb hs hpl) fun σ H Q ⟨ρ,O,q,I,hf,k⟩=>⟨ρ,O,_,I,hf,fun ts hts vs H1 s1 a1=>ht Z tm O ρ σ H1 ts vs q _ (I.same s1) a1 hts fun t h u H' s z=>k t h u H' (s1.trans s) z⟩
end
noncomputable def pLen (ts:List T) (q:Rt→Prop):Prop:=match ts with
 | [.lst l]=>q (.vw (.int l.length))
 | [.tup l]=>q (.vw (.int l.length))
 | [.str z]=>z.length≤sizeLine∧q (.vw (.int z.length))
 | _=>False
noncomputable def rLenU (K:PySem.W.Frag):List V→Hp→VK→Prop:=fun xs H Q=>(∃ p ys,xs=[.ref p]∧(SqL K H p ys∨SqT K H p ys)∧Q (.int ys.length) H)∨(∃ z,xs=[.str z]∧z.length≤sizeLine∧Q (.int z.length) H)
theorem call_lenU {X:Cx}:CallR X (.builtin "len") (rLenU X.K):=CallR.or call_len_seq call_len_str
theorem paired1 {α β:Type} {F:α→β→Prop} {vs:List α} {t:β} (h:Paired F vs [t]):∃ v,vs=[v]∧F v t:=by
 cases h with
 | cons r q=>cases q; exact ⟨_,rfl,r⟩
theorem callT_len {K:PySem.W.Frag}:CallT K (rLenU K) pLen:=by
 intro Z tm O ρ σ H ts vs q Q I h hp k
 unfold pLen at hp
 split at hp
 · obtain ⟨v,rfl,a⟩:=paired1 h
   obtain ⟨p,ws,rfl,q1,q2⟩:=a.lst
   exact .inl ⟨p,ws,rfl,.inl q1,k _ hp _ H (Same.refl H) ⟨I,by rw [q2.length]; exact at_int⟩⟩
 · obtain ⟨v,rfl,a⟩:=paired1 h
   obtain ⟨p,ws,rfl,q1,q2⟩:=a.tup
   exact .inl ⟨p,ws,rfl,.inr q1,k _ hp _ H (Same.refl H) ⟨I,by rw [q2.length]; exact at_int⟩⟩
 · obtain ⟨v,rfl,a⟩:=paired1 h
   exact .inr ⟨_,by rw [a.str],hp.1,k _ hp.2 _ H (Same.refl H) ⟨I,at_int⟩⟩
 · exact hp.elim
noncomputable def pList (ts:List T) (q:Rt→Prop):Prop:=match ts with
 | [.lst l]=>q (.fr (.lst l))
 | [.tup l]=>q (.fr (.lst l))
 | _=>False
theorem callT_list {K:PySem.W.Frag}:CallT K (fun xs H Q=>∃ p ys,xs=[.ref p]∧(SqL K H p ys∨SqT K H p ys)∧∀ l,H l=none→Q (.ref l) (upd H l (.lst ys))) pList:=by
 intro Z tm O ρ σ H ts vs q Q I h hp k
 unfold pList at hp
 split at hp
 · obtain ⟨v,rfl,a⟩:=paired1 h
   obtain ⟨p,ws,rfl,q1,q2⟩:=a.lst
   exact ⟨p,ws,rfl,.inl q1,fun l hl=>k _ hp _ _ (same_upd hl) (I.newL hl q2)⟩
 · obtain ⟨v,rfl,a⟩:=paired1 h
   obtain ⟨p,ws,rfl,q1,q2⟩:=a.tup
   exact ⟨p,ws,rfl,.inr q1,fun l hl=>k _ hp _ _ (same_upd hl) (I.newL hl q2)⟩
 · exact hp.elim
noncomputable def pTuple (ts:List T) (q:Rt→Prop):Prop:=match ts with
 | [.lst l]=>q (.vw (.tup l))
 | [.tup l]=>q (.vw (.tup l))
 | _=>False
theorem callT_tuple {K:PySem.W.Frag}:CallT K (fun xs H Q=>∃ p ys,xs=[.ref p]∧((SqL K H p ys∧∀ l,H l=none→Q (.ref l) (upd H l (.tup ys)))∨(SqT K H p ys∧Q (.ref p) H))) pTuple:=by
 intro Z tm O ρ σ H ts vs q Q I h hp k
 unfold pTuple at hp
 split at hp
 · obtain ⟨v,rfl,a⟩:=paired1 h
   obtain ⟨p,ws,rfl,q1,q2⟩:=a.lst
   exact ⟨p,ws,rfl,.inl ⟨q1,fun l hl=>k _ hp _ _ (same_upd hl) ⟨I.same (same_upd hl),at_tup (SqT.of upd_same) (q2.same (same_upd hl))⟩⟩⟩
 · obtain ⟨v,rfl,a⟩:=paired1 h
   obtain ⟨p,ws,rfl,q1,q2⟩:=a.tup
   exact ⟨p,ws,rfl,.inr ⟨q1,k _ hp _ H (Same.refl H) ⟨I,at_tup q1 q2⟩⟩⟩
 · exact hp.elim
end VT
namespace VT
open PySem PySem.Spec PyProof.Rows L2
structure VEn where
 nx:En→Prop
 rt:En→Rt→Prop
 bk:En→Prop:=fun _=>False
 ct:En→Prop:=fun _=>False
structure Fin (K:PySem.W.Frag) (Z:Zc) (tm:List (T×V)) (d:VEn) (D:Ends):Prop where
 nx:∀ O ρ σ H,EnvAt K Z tm O ρ σ H→d.nx ρ→D.nx σ H
 rt:∀ O ρ σ H r v,RetX K Z tm O ρ σ H r v→d.rt ρ r→D.rt v H
 bk:∀ O ρ σ H,EnvAt K Z tm O ρ σ H→d.bk ρ→D.bk σ H
 ct:∀ O ρ σ H,EnvAt K Z tm O ρ σ H→d.ct ρ→D.ct σ H
noncomputable abbrev FS:=VEn→En→Prop
noncomputable def lS (X:Cx) (Z:Zc) (tm:List (T×V)) (g:FS):TS:=fun D σ H=>∃ ρ O d,EnvAt X.K Z tm O ρ σ H∧g d ρ∧Fin X.K Z tm d D
noncomputable def VS (X:Cx) (Z:Zc) (st:Stmt) (g:FS):Prop:=Bx fun tm=>PS X st (lS X Z tm g)
noncomputable instance {X:Cx} {Z:Zc} {st:Stmt} {g:FS}:CoeFun (VS X Z st g) fun _=>∀ tm,PS X st (lS X Z tm g):=⟨fun h=>Bx.h h⟩
noncomputable def VSs (X:Cx) (Z:Zc) (st:List Stmt) (g:FS):Prop:=Bx fun tm=>PSs X st (lS X Z tm g)
noncomputable instance {X:Cx} {Z:Zc} {st:List Stmt} {g:FS}:CoeFun (VSs X Z st g) fun _=>∀ tm,PSs X st (lS X Z tm g):=⟨fun h=>Bx.h h⟩
noncomputable def NotPar (Z:Zc) (i:Nat):Prop:=∀ p∈Z.P,p.1≠i
section
variable {X:Cx} {Z:Zc} {st:Stmt} {rest:List Stmt} {g u:FS} {e:Expr} {pos:Pos}
noncomputable def gNext:FS:=fun d ρ=>d.nx ρ
noncomputable def gSeq (g u:FS):FS:=fun d ρ=>g { d with nx:=u d } ρ
theorem vss_nil:VSs X Z [] gNext:=.mk fun tm=>PSs.weak' pss_nil fun D σ H ⟨ρ,O,d,I,h,F⟩=>F.nx O ρ σ H I h
theorem vss_cons (h1:VS X Z st g) (h2:VSs X Z rest u):VSs X Z (st :: rest) (gSeq g u):=.mk fun tm=>PSs.weak' (pss_cons (h1 tm) (h2 tm)) fun D σ H ⟨ρ,O,d,I,h,F⟩ =>
 ⟨ρ,O,{ d with nx:=u d },I,h,⟨fun O' ρ' σ' H' I' h'=>⟨ρ',O',d,I',h',F⟩,F.rt,F.bk,F.ct⟩⟩
theorem vss_one (h1:VS X Z st g):VSs X Z [st] g:=.mk fun tm=>pss_one (h1 tm)
theorem VSs.weak (h:VSs X Z rest g) (hw:∀ d ρ,u d ρ→g d ρ):VSs X Z rest u:=.mk fun tm=>PSs.weak' (h tm) fun D σ H ⟨ρ,O,d,I,q,F⟩=>⟨ρ,O,d,I,hw d ρ q,F⟩
noncomputable def gDrop (f:FX):FS:=fun d ρ=>f ρ fun ρ' _=>d.nx ρ'
theorem vs_expr {f:FX} (h:VX X Z e f) (hs:swapsWith e none pos.line X.env=pure false:=by rfl):VS X Z (.Expr e pos) (gDrop f):=.mk fun tm=>PS.weak (ps_expr (h tm) hs) fun D σ H ⟨ρ,O,d,I,q,F⟩ =>
 ⟨ρ,O,_,I,q,fun ρ' r hr O' v H' z=>F.nx O' ρ' σ H' z.env hr⟩
noncomputable def gRet (f:FX):FS:=fun d ρ=>f ρ fun ρ' r=>d.rt ρ' r
theorem vs_ret {f:FX} (h:VX X Z e f):VS X Z (.Return (some e) pos) (gRet f):=.mk fun tm=>PS.weak (ps_ret (h tm)) fun D σ H ⟨ρ,O,d,I,q,F⟩ =>
 ⟨ρ,O,_,I,q,fun ρ' r hr O' v H' z=>F.rt O' ρ' σ H' r v z hr⟩
noncomputable def gIf (c:FB) (g u:FS):FS:=fun d ρ=>c ρ fun b=>if b=true then g d ρ else u d ρ
theorem vs_if {c:Expr} {fc:FB} {a b:List Stmt} (hc:VC X Z c fc) (ha:VSs X Z a g) (hb:VSs X Z b u):VS X Z (.If c a b pos) (gIf fc g u):=.mk fun tm=>PS.weak (ps_if (hc tm) (ha tm) (hb tm)) fun D σ H ⟨ρ,O,d,I,q,F⟩ =>
 ⟨ρ,O,_,I,q,fun b hb H' s=>by
   cases b with
   | true=>rw [if_pos rfl] at hb ⊢; exact ⟨ρ,O,d,I.same s,hb,F⟩
   | false=>rw [if_neg Bool.false_ne_true] at hb ⊢; exact ⟨ρ,O,d,I.same s,hb,F⟩⟩
noncomputable def gSet (i:Nat) (f:FX):FS:=fun d ρ=>f ρ fun ρ' r=>d.nx (ρ'.set i (some (r.t,false)))
noncomputable def gOwn (i:Nat) (f:FX):FS:=fun d ρ=>f ρ fun ρ' r=>match r with
 | .fr t=>d.nx (ρ'.set i (some (t,true)))
 | _=>False
theorem vs_set {i:Nat} {x:Str} {f:FX} {pos':Pos} (hN:X.N.Nodup) (hi:X.N[i]?=some x) (hx:Loc X.env.scope x) (he:VX X Z e f) (hp:NotPar Z i) (hs:swapsWith e (some (.Name x pos')) pos.line X.env=pure false:=by rfl)
  (hf:X.fn x=true∨X.env.scope.names.lookup x=some .local:=by first | exact .inl rfl | exact .inr rfl | assumption):VS X Z (.Assign [.Name x pos'] e pos) (gSet i f):=.mk fun tm=>PS.weak (ps_set hN hi hx (he tm) hs hf) fun D σ H ⟨ρ,O,d,I,q,F⟩ =>
 ⟨ρ,O,_,I,q,fun ρ' r hr O' v H' z=>F.nx _ _ _ H' (z.env.put hp z.at) hr⟩
theorem vs_own {i:Nat} {x:Str} {f:FX} {pos':Pos} (hN:X.N.Nodup) (hi:X.N[i]?=some x) (hx:Loc X.env.scope x) (he:VX X Z e f) (hp:NotPar Z i) (hs:swapsWith e (some (.Name x pos')) pos.line X.env=pure false:=by rfl)
  (hf:X.fn x=true∨X.env.scope.names.lookup x=some .local:=by first | exact .inl rfl | exact .inr rfl | assumption):VS X Z (.Assign [.Name x pos'] e pos) (gOwn i f):=.mk fun tm=>PS.weak (ps_set hN hi hx (he tm) hs hf) fun D σ H ⟨ρ,O,d,I,q,F⟩ =>
 ⟨ρ,O,_,I,q,fun ρ' r hr O' v H' z=>by
   split at hr
   · obtain ⟨a,rfl,J,hR,h0,hx'⟩:=z
     exact F.nx _ _ _ H' (J.own' hp hR h0 hx') hr
   · exact hr.elim⟩
noncomputable def gAug (i:Nat) (f:FE) (p:T→T→(Rt→Prop)→Prop):FS:=fun d ρ=>match ρ[i]? with
 | some (some (x,false))=>f ρ fun y=>p x y fun r=>d.nx (ρ.set i (some (r.t,false)))
 | _=>False
theorem vs_aug {i:Nat} {x:Str} {f:FE} {op:Operator} {r:R2} {p:T→T→(Rt→Prop)→Prop} {pos':Pos} (hN:X.N.Nodup) (hi:X.N[i]?=some x) (hx:Loc X.env.scope x) (he:VR X Z e f) (ho:OpR X (inplaceOp op) r) (ht:OpT X.K r p) (hp:NotPar Z i)
  (hf:X.fn x=true∨X.env.scope.names.lookup x=some .local:=by first | exact .inl rfl | exact .inr rfl | assumption):VS X Z (.AugAssign (.Name x pos') op e pos) (gAug i f p):=.mk fun tm=>PS.weak (ps_aug hN hi hx (he tm) ho hf) fun D σ H ⟨ρ,O,d,I,q,F⟩=>by
 unfold gAug at q
 split at q
 · rename_i t e0
   obtain ⟨o,s,h1,h2,rfl,v,rfl,h3⟩:=I.sl i _ e0
   refine ⟨v,h2,ρ,O,_,I,q,fun y hy w H1 s1 a1=>?_⟩
   exact ht Z tm O ρ σ H1 t y v w _ _ (I.same s1) (.inl (h3.same s1)) a1 hy fun r hr z H2 s2 k=>F.nx _ _ _ H2 (k.env.put hp k.at) hr
 · exact q.elim
end
section
variable {X:Cx} {Z:Zc} {e a b:Expr} {es:List Expr} {pos apos cpos:Pos}
theorem EnvAt.root {K:PySem.W.Frag} {tm:List (T×V)} {O:List (Option Addr)} {ρ:En} {σ:St} {H:Hp} (I:EnvAt K Z tm O ρ σ H) {k:Nat} {t:T} (e:ρ[k]?=some (some (t,true))):∃ a,O[k]?=some (some a)∧σ[k]?=some (some (.ref a))∧Root K H (av Z O) a t:=by
 obtain ⟨o,s,h1,h2,a,rfl,rfl,h3⟩:=I.sl k _ e
 exact ⟨a,h1,h2,h3⟩
noncomputable def fMeth (k:Nat) (g:FA) (p:List T→List T→(List T→T→Prop)→Prop):FX:=fun ρ Q=>match ρ[k]? with
 | some (some (.lst ts,true))=>g ρ fun vs=>p ts vs fun ts' r=>Q (ρ.set k (some (.lst ts',true))) (.vw r)
 | _=>False
noncomputable def MtT (K:PySem.W.Frag) (r:V→List V→Hp→VK→Prop) (p:List T→List T→(List T→T→Prop)→Prop):Prop :=
 ∀ (H:Hp) (A:List Addr) (l:Addr) (xs:List V) (ts us:List T) (vs:List V) (q:List T→T→Prop) (Q:VK),l∈A→H l=some (.lst xs)→AtL K H A ts xs→AtL K H A us vs→p ts us q →
  (∀ ts' t,q ts' t→∀ xs' v,AtL K H A ts' xs'→At K H A t v→Q v (upd H l (.lst xs')))→r (.ref l) vs H Q
theorem meth_ok {r:V→List V→Hp→VK→Prop} {p:List T→List T→(List T→T→Prop)→Prop} (hm:MtT X.K r p) {k:Nat} {g:FA} {tm:List (T×V)} {σ:St} {H:Hp} {Q:VK} (h:lX X Z tm (fMeth k g p) σ H Q) :
  ∃ l,σ[k]?=some (some (.ref l))∧(∃ xs,SqL X.K H l xs)∧lA X Z tm g σ H fun vs H1=>r (.ref l) vs H1 Q:=by
 obtain ⟨ρ,O,q,I,hf,kk⟩:=h
 unfold fMeth at hf
 split at hf
 · rename_i ts e0
   obtain ⟨l,h1,h2,xs,h3,h4⟩:=I.root e0
   refine ⟨l,h2,⟨xs,SqL.of h3⟩,ρ,O,_,I,hf,fun us hus vs H1 s1 a1=>?_⟩
   have J:=I.same s1
   have ha:l∈av Z O:=List.mem_append_left _ (mem_roots.mpr (List.mem_of_getElem? h1))
   refine hm H1 (av Z O) l xs ts us vs _ Q ha (s1 _ _ h3) (h4.same s1) a1 hus fun ts' t ht xs' v b1 b2=>?_
   exact kk _ _ ht O _ _ ⟨J.wrote e0 h1 ⟨xs',upd_same,b1.wrote ha (s1 _ _ h3) rfl⟩,b2.wrote ha (s1 _ _ h3) rfl⟩
 · exact hf.elim
theorem vx_bm (k:Nat) {x name:Str} {id:String} {p:Pos} {g:FA} {r:V→List V→Hp→VK→Prop} {pp:List T→List T→(List T→T→Prop)→Prop} (slot:Slot "list" name id) (hty:typeOf (.builtin id)=pure (.type "method_descriptor")) (hm:MtR X id r) (ht:MtT X.K r pp) (ha:VA X Z (e :: es) g)
  (hN:X.N[k]?=some x:=by rfl) (hv:Vis X.env.scope x:=by first | exact Or.inl rfl | exact Or.inr (Or.inl rfl) | exact Or.inr (Or.inr rfl)) (hd:(x == ("__debug__" : Str))=false:=by decide)
  (hcd:(x == ("__classdict__" : Str))=false:=by decide) (hbase:attributeBase (.Name x p) name X.env (eval (.Name x p) X.env)=eval (.Name x p) X.env:=by rfl)
  (hfew:((backTo cpos (starEach (e :: es) X.env)).all (fun x=>!x.1) && (backToKw cpos (keywordEach [] X.env)).all (fun x=>x.1.isSome)
    && decide ((e :: es).length+([]:List Keyword).length+(if ([]:List Keyword).isEmpty then 0 else 1) < 30))=true:=by rfl)
  (hline:(apos.endLine == cpos.line)=true:=by rfl) (hs:starEach (e :: es) X.env=(false,eval e X.env) :: starEach es X.env:=by rfl) (hplain:(backTo cpos (starEach es X.env)).any (·.1)=false:=by rfl) :
  VX X Z (.Call (.Attribute (.Name x p) name apos) (e :: es) [] cpos) (fMeth k g pp):=.mk fun tm =>
 PE.weak (pe_bm PySem.F.plainAttrs_list slot hty hm (pe_var hN hv hd hcd) (ha tm) hbase hfew hline hs hplain) fun σ H Q h =>
  let ⟨l,h1,h2,h3⟩:=meth_ok ht h; ⟨.ref l,h1,.inl ⟨rfl,h2⟩,h3⟩
theorem vx_bm0 (k:Nat) {x name:Str} {id:String} {p:Pos} {r:V→List V→Hp→VK→Prop} {pp:List T→List T→(List T→T→Prop)→Prop} (slot:Slot "list" name id) (hty:typeOf (.builtin id)=pure (.type "method_descriptor")) (hm:MtR X id r) (ht:MtT X.K r pp)
  (hN:X.N[k]?=some x:=by rfl) (hv:Vis X.env.scope x:=by first | exact Or.inl rfl | exact Or.inr (Or.inl rfl) | exact Or.inr (Or.inr rfl)) (hd:(x == ("__debug__" : Str))=false:=by decide)
  (hcd:(x == ("__classdict__" : Str))=false:=by decide) (hbase:attributeBase (.Name x p) name X.env (eval (.Name x p) X.env)=eval (.Name x p) X.env:=by rfl)
  (hline:(apos.endLine == cpos.line)=true:=by rfl):VX X Z (.Call (.Attribute (.Name x p) name apos) [] [] cpos) (fMeth k fNil pp):=.mk fun tm =>
 PE.weak (pe_bm0 PySem.F.plainAttrs_list slot hty hm (pe_var hN hv hd hcd) hbase hline) fun σ H Q h=>by
  obtain ⟨l,h1,h2,ρ,O,q,I,hf,kk⟩:=meth_ok ht h
  exact ⟨.ref l,h1,.inl ⟨rfl,h2⟩,kk [] hf [] H (Same.refl H) AtL.nil⟩
noncomputable def pAppend (ts us:List T) (q:List T→T→Prop):Prop:=match us with
 | [t]=>ts.length < sizeLine∧q (ts ++ [t]) .non
 | _=>False
theorem mtT_append {K:PySem.W.Frag}:MtT K rAppend pAppend:=by
 intro H A l xs ts us vs q Q hl hH h1 h2 hp k
 unfold pAppend at hp
 split at hp
 · obtain ⟨v,rfl,a⟩:=paired1 (AtL.iff.mp h2)
   exact ⟨l,xs,v,rfl,rfl,hH,by rw [h1.length]; exact hp.1,k _ _ hp.2 _ _ (h1.append (AtL.cons a AtL.nil)) at_non⟩
 · exact hp.elim
noncomputable def pPop (ts us:List T) (q:List T→T→Prop):Prop:=us=[]∧∃ t,ts[ts.length - 1]?=some t∧q ts.dropLast t
theorem AtL.dropLast {K:PySem.W.Frag} {H:Hp} {A:List Addr} {ts:List T} {vs:List V} (h:AtL K H A ts vs):AtL K H A ts.dropLast vs.dropLast:=by
 rw [List.dropLast_eq_take,List.dropLast_eq_take,h.length]
 exact h.take _
theorem mtT_pop {K:PySem.W.Frag}:MtT K rPop pPop:=by
 intro H A l xs ts us vs q Q hl hH h1 h2 hp k
 obtain ⟨rfl,t,e1,hq⟩:=hp
 have e:vs=[]:=by simpa only [AtL] using h2
 obtain ⟨v,e2,a⟩:=h1.get e1
 exact ⟨l,xs,v,rfl,e,hH,by rw [h1.length]; exact e2,k _ _ hq _ _ h1.dropLast a⟩
noncomputable def gPut' (k:Nat) (f fi:FE):FS:=fun d ρ=>match ρ[k]? with
 | some (some (.lst ts,true))=>f ρ fun v=>fi ρ fun i=>match i with
   | .int j=>∃ n,ixN ts.length j=some n∧d.nx (ρ.set k (some (.lst (ts.set n v),true)))
   | _=>False
 | _=>False
theorem vs_put (k:Nat) {x:Str} {p:Pos} {f fi:FE} {i:Expr} {tpos:Pos} (he:VE X Z e f) (hi:VR X Z i fi)
  (hN:X.N[k]?=some x:=by rfl) (hv:Vis X.env.scope x:=by first | exact Or.inl rfl | exact Or.inr (Or.inl rfl) | exact Or.inr (Or.inr rfl)) (hd:(x == ("__debug__" : Str))=false:=by decide)
  (hcd:(x == ("__classdict__" : Str))=false:=by decide)
  (ha:∀ v,assign (.Subscript (.Name x p) i tpos) X.env v=(do
    let ov ← holding [v] (eval (.Name x p) X.env)
    let iv ← holding [v,ov] (eval i X.env)
    standAt tpos
    holding [v,ov,iv] (setItem ov iv v)
    release [v,ov,iv] []):=by intro _; rfl)
  (hs:swapsWithSole [.Subscript (.Name x p) i tpos] e pos.line X.env=pure false:=by rfl) (hw:swappedStores [.Subscript (.Name x p) i tpos] e X.env=pure none:=by rfl)
  (h1:(assignEach [.Subscript (.Name x p) i tpos] X.env).map (·.2)=[assign (.Subscript (.Name x p) i tpos) X.env]:=by rfl):VS X Z (.Assign [.Subscript (.Name x p) i tpos] e pos) (gPut' k f fi):=.mk fun tm =>
 PS.weak (ps_asg (he tm) (pg_sub (pe_var hN hv hd hcd) (hi tm) set_list ha) hs hw h1) fun D σ H ⟨ρ,O,d,I,q,F⟩=>by
  unfold gPut' at q
  split at q
  · rename_i ts e0
    obtain ⟨l,h1,h2,xs,h3,h4⟩:=I.root e0
    have ha:l∈av Z O:=List.mem_append_left _ (mem_roots.mpr (List.mem_of_getElem? h1))
    refine ⟨ρ,O,_,I,q,fun t ht v H1 s1 a1=>⟨.ref l,h2,ρ,O,_,I.same s1,ht,fun j hj w H2 s2 a2=>?_⟩⟩
    split at hj
    · obtain ⟨n,e1,hj⟩:=hj
      refine ⟨l,xs,_,n,rfl,a2.int,s2 _ _ (s1 _ _ h3),by rw [h4.length]; exact e1,?_⟩
      refine F.nx O _ σ _ (((I.same s1).same s2).wrote (t':=.lst (ts.set n t)) e0 h1 ⟨xs.set n v,upd_same,?_⟩) hj
      exact AtL.wrote ha (s2 _ _ (s1 _ _ h3)) rfl (((h4.same s1).same s2).set n (a1.same s2))
    · exact hj.elim
  · exact q.elim
theorem EnvAt.give {K:PySem.W.Frag} {tm:List (T×V)} {O:List (Option Addr)} {ρ:En} {σ:St} {H:Hp} (I:EnvAt K Z tm O ρ σ H) {i:Nat} {t:T} (hp:NotPar Z i) (hi:ρ[i]?=some (some (t,true))):∃ a,σ[i]?=some (some (.ref a))∧RetX K Z tm (O.set i none) (ρ.set i none) σ H (.fr t) (.ref a):=by
 obtain ⟨a,h1,h2,h3⟩:=I.root hi
 have ha:a∈roots O:=mem_roots.mpr (List.mem_of_getElem? h1)
 obtain ⟨o1,o2,o3⟩:=I.own a ha
 have J:=I.forget hp
 have J2:=I.frz hp hi
 have na:a∉roots (O.set i none):=fun z=>by
  obtain ⟨o,s,g1,g2,g3,v,g4,g5⟩:=J2.sl i (some (t,false)) (by rw [List.getElem?_set_self (by rw [← I.lO]; exact (List.getElem?_eq_some_iff.mp h1).1)])
  rw [h2] at g2
  cases g2
  cases g4
  have nn:a∉av Z (O.set i none):=by
   obtain ⟨u,eu,mu⟩:=h3.mut
   cases t with
   | lst ts=>simp only [At] at g5; obtain ⟨b,vs,eb,l,_⟩:=g5; cases eb; rcases l with l | ⟨oo,_,_,lk,_⟩
             · exact l.2
             · exact fun z2=>by
                have key:∀ (O:List (Option Addr)) (i:Nat),O[i]?=some (some a)→(roots O).Nodup→a∉roots (O.set i none):=by
                 intro O
                 induction O with
                 | nil=>intro i h; simp at h
                 | cons o O ih =>
                   intro i h nd
                   cases i with
                   | zero =>
                     have:o=some a:=by simpa using h
                     subst this
                     simp only [roots,List.set_cons_zero,List.filterMap_cons,id] at nd ⊢
                     exact (List.nodup_cons.mp nd).1
                   | succ i =>
                     have h':O[i]?=some (some a):=by simpa using h
                     cases o with
                     | none=>simp only [roots,List.set_cons_succ,List.filterMap_cons,id] at nd ⊢; exact ih i h' nd
                     | some b =>
                       simp only [roots,List.set_cons_succ,List.filterMap_cons,id] at nd ⊢
                       rw [List.nodup_cons] at nd
                       intro z
                       rcases List.mem_cons.mp z with z | z
                       · exact nd.1 (by rw [← z]; exact mem_roots.mpr (List.mem_of_getElem? h'))
                       · exact ih i h' nd.2 z
                rcases List.mem_append.mp z2 with z2 | z2
                · exact key O i h1 I.nd z2
                · exact o2 z2
   | dk ks ts=>simp only [At] at g5; obtain ⟨b,vs,eb,_,d,_⟩:=g5; cases eb; exact d.2
   | dt ks ts=>simp only [At] at g5; obtain ⟨b,vs,eb,_,d,_⟩:=g5; cases eb; exact d.2
   | ins C ns ts=>simp only [At] at g5; obtain ⟨b,dx,vs,eb,_,d,_⟩:=g5; cases eb; exact d.2
   | _=>exact h3.elim
  exact nn (List.mem_append_left _ z)
 have hP:Z.H0 a=none:=by
  rcases o1 with z | z
  · obtain ⟨p,hpm,rfl⟩:=List.mem_map.mp z
    have:=J.par p hpm
    exact absurd (mem_roots.mpr (List.mem_of_getElem? this)) na
  · exact z
 have sub:∀ b∈av (Z.ex a) (O.set i none),b∈av Z O:=fun b hb=>by
  rcases av_ex_sub b hb with z | z
  · exact av_none_sub i b z
  · rw [z]; exact List.mem_append_left _ ha
 refine ⟨a,h2,a,rfl,⟨J.lσ,J.lO,fun j e h=>?_,J.nd,fun b hb=>?_,J.par,fun b hb=>?_,J.keep,fun p hp=>(I.tmp p hp).fewer sub⟩,h3.fewer sub,hP,o2⟩
 · rcases get_set h with ⟨rfl,rfl,hl⟩ | ⟨ne,h⟩
   · obtain ⟨o,s,g1,g2,g3⟩:=J.sl j none (by rw [List.getElem?_set_self hl])
     exact ⟨o,s,g1,g2,g3⟩
   · obtain ⟨o,s,g1,g2,g3⟩:=I.sl j e h
     exact ⟨o,s,by rw [List.getElem?_set_ne (Ne.symm ne)]; exact g1,g2,g3.map (fun _ _ q=>q.fewer sub) fun _ _ _ q=>q.fewer sub⟩
 · obtain ⟨q1,q2,q3⟩:=J.own b hb
   refine ⟨q1,fun z=>?_,q3⟩
   rcases List.mem_cons.mp z with z | z
   · exact na (by rw [← z]; exact hb)
   · exact q2 z
 · rcases List.mem_cons.mp hb with z | z
   · obtain ⟨u,eu,_⟩:=o3; rw [z,eu]; simp
   · exact I.ox b z
noncomputable def fGive (i:Nat):FX:=fun ρ Q=>match ρ[i]? with
 | some (some (t,true))=>Q (ρ.set i none) (.fr t)
 | some (some (t,false))=>Q ρ (.vw t)
 | _=>False
theorem vx_give (i:Nat) {x:Str} (hp:NotPar Z i) (hN:X.N[i]?=some x:=by rfl) (hv:Vis X.env.scope x:=by first | exact Or.inl rfl | exact Or.inr (Or.inl rfl) | exact Or.inr (Or.inr rfl)) (hd:(x == ("__debug__" : Str))=false:=by decide)
  (hcd:(x == ("__classdict__" : Str))=false:=by decide):VX X Z (.Name x pos) (fGive i):=.mk fun tm=>PE.weak (pe_var hN hv hd hcd) fun σ H Q ⟨ρ,O,q,I,hf,k⟩=>by
 unfold fGive at hf
 split at hf
 · rename_i t e
   obtain ⟨a,h1,h2⟩:=I.give hp e
   exact ⟨_,h1,k _ _ hf _ _ H h2⟩
 · rename_i t e
   obtain ⟨o,s,h1,h2,rfl,v,rfl,h3⟩:=I.sl i _ e
   exact ⟨v,h2,k _ _ hf O v H ⟨I,h3⟩⟩
 · exact hf.elim
end
end VT
namespace VT
open PySem PySem.Spec PyProof.Rows L2
theorem EnvAt.tmps {K:PySem.W.Frag} {Z:Zc} {tm tm':List (T×V)} {O:List (Option Addr)} {ρ:En} {σ:St} {H:Hp} (I:EnvAt K Z tm O ρ σ H) (h:∀ p∈tm',At K H (av Z O) p.1 p.2):EnvAt K Z tm' O ρ σ H :=
 ⟨I.lσ,I.lO,I.sl,I.nd,I.own,I.par,I.ox,I.keep,h⟩
theorem RetX.tmps {K:PySem.W.Frag} {Z:Zc} {srcs tm:List (T×V)} {O:List (Option Addr)} {ρ:En} {σ:St} {H:Hp} {r:Rt} {v:V} (h:RetX K Z (srcs ++ tm) O ρ σ H r v):RetX K Z tm O ρ σ H r v:=by
 cases r with
 | vw t=>exact ⟨h.1.tmps fun p hp=>h.1.tmp p (List.mem_append_right _ hp),h.2⟩
 | fr t=>obtain ⟨a,e,I,q⟩:=h; exact ⟨a,e,I.tmps fun p hp=>I.tmp p (List.mem_append_right _ hp),q⟩
noncomputable def Wk (K:PySem.W.Frag) (J:It) (srcs:List (T×V)) (ts:List T):Prop:=∀ H A,(∀ a∈A,H a≠none)→(∀ p∈srcs,At K H A p.1 p.2)→∀ i:Nat,
 (i < ts.length→J.go i H)∧(ts.length=i→J.stop i H)∧∀ t,ts[i]?=some t→∀ x H',J.yld i H x H'→Same H H'∧At K H' A t x
noncomputable abbrev FI:=En→(List T→Prop)→Prop
noncomputable def lI (X:Cx) (Z:Zc) (tm:List (T×V)) (f:FI):TI:=fun σ H R=>∃ ρ O q,EnvAt X.K Z tm O ρ σ H∧f ρ q∧∀ ts,q ts→∀ J H' srcs,Same H H'→(∀ p∈srcs,At X.K H' (av Z O) p.1 p.2)→Wk X.K J srcs ts→R J H'
noncomputable def VI (X:Cx) (Z:Zc) (tg iter:Expr) (f:FI):Prop:=Bx fun tm=>PI X tg iter (lI X Z tm f)
noncomputable instance {X:Cx} {Z:Zc} {tg iter:Expr} {f:FI}:CoeFun (VI X Z tg iter f) fun _=>∀ tm,PI X tg iter (lI X Z tm f):=⟨fun h=>Bx.h h⟩
theorem PI.weak {X:Cx} {tg e:Expr} {t t':TI} (h:PI X tg e t) (hw:∀ σ H R,t' σ H R→t σ H R):PI X tg e t':=fun pins s σ H R I q=>h pins s σ H R I (hw _ _ _ q)
theorem PG.weak {X:Cx} {tg:Expr} {t t':TG} (h:PG X tg t) (hw:∀ v σ H Q,t' v σ H Q→t v σ H Q):PG X tg t':=fun pins s σ H v u Q I r q=>h pins s σ H v u Q I r (hw _ _ _ _ q)
theorem PGs.weak {X:Cx} {tg:List Expr} {t t':TGs} (h:PGs X tg t) (hw:∀ v σ H Q,t' v σ H Q→t v σ H Q):PGs X tg t':=fun pins s σ H v u Q I r q=>h pins s σ H v u Q I r (hw _ _ _ _ q)
noncomputable def iSeq (K:PySem.W.Frag) (tl:TE):TI:=fun σ H R=>tl σ H fun x H1=>(∃ a,x = .ref a∧(∃ xs,SqL K H1 a xs)∧R (Itl K a) H1)∨(∃ a,x = .ref a∧(∃ xs,SqT K H1 a xs)∧R (Itt K a) H1)∨∃ z,x = .str z∧R (Its z) H1
section
variable {X:Cx} {Z:Zc} {tg:Expr}
theorem pi_seq {l:Expr} {tl:TE} (hl:PE X l tl):PI X tg l (iSeq X.K tl):=by
 intro pins s σ H R I h
 refine thn (hl pins s σ H _ I h) fun v s1 ⟨x,H1,I1,r1,q1⟩=>?_
 rcases q1 with ⟨a,e,hq,q⟩ | ⟨a,e,hq,q⟩ | ⟨z,e,q⟩
 · subst e
   cases r1
   obtain ⟨xs,hq⟩:=hq
   obtain ⟨its,rv,p,hz⟩:=I1.list hq
   refine wpAny_pyIter_list p.isList ?_
   refine ⟨s1.heap.objs.size,[s1.heap.objs.size],_,_,H1,rfl,I1.kept (t':=s1.toks) fun b o e=>Heap.get?_push_of_some _ e,turn_list a _,⟨_,Heap.get?_push_size _ rfl,rfl,rfl⟩,fun b hb=>?_,q⟩
   have e:b=s1.heap.objs.size:=by simpa using hb
   subst e
   exact I1.fpOk (Nat.le_refl _) (I1.hok.fresh (Nat.le_refl _))
 · subst e
   cases r1
   obtain ⟨xs,hq⟩:=hq
   obtain ⟨its,rv,p,hz⟩:=I1.tuple hq
   refine wpAny_pyIter_tuple (show s1.heap.IsTuple a its.toArray from p) ?_
   refine ⟨s1.heap.objs.size,[s1.heap.objs.size],_,_,H1,rfl,I1.kept (t':=s1.toks) fun b o e=>Heap.get?_push_of_some _ e,turn_tuple a _,⟨_,Heap.get?_push_size _ rfl,rfl,rfl⟩,fun b hb=>?_,q⟩
   have e:b=s1.heap.objs.size:=by simpa using hb
   subst e
   exact I1.fpOk (Nat.le_refl _) (I1.hok.fresh (Nat.le_refl _))
 · subst e
   obtain ⟨t,rfl⟩:=r1
   refine wpAny_pyIter_strU ?_
   have I2:Inv X pins σ H1 { s1 with heap:=s1.heap.push { cls:=.type (strIterType z),data:=.fields #[.str z t,.int 0 0] } }:=I1.kept (t':=s1.toks) fun b o e=>Heap.get?_push_of_some _ e
   refine ⟨s1.heap.objs.size,[s1.heap.objs.size],_,_,H1,rfl,I2,turn_str z t _,⟨_,Heap.get?_push_size _ rfl,rfl,rfl⟩,fun b hb=>?_,q⟩
   have e:b=s1.heap.objs.size:=by simpa using hb
   subst e
   exact I1.fpOk (Nat.le_refl _) I1.fresh
noncomputable def fSeq (f:FE):FI:=fun ρ Q=>f ρ fun t=>match t with
 | .lst ts=>Q ts
 | .tup ts=>Q ts
 | .str z=>Q (z.cps.toList.map fun c=>.str ⟨#[c]⟩)
 | _=>False
theorem wk_list {K:PySem.W.Frag} {a:Addr} {ts:List T}:Wk K (Itl K a) [(.lst ts,.ref a)] ts:=fun H A hA h i=>by
 have h:=h _ List.mem_cons_self
 simp only [At] at h
 obtain ⟨b,vs,e,l,q⟩:=h
 cases e
 have hl:=q.length
 refine ⟨fun hi=>⟨vs,vs[i]'(by omega),l.sq,by simp⟩,fun hi=>⟨vs,l.sq,by omega⟩,fun t ht x H' y=>?_⟩
 obtain ⟨rfl,y⟩:=y
 obtain ⟨v,e1,e2⟩:=q.get ht
 have:=y vs l.sq
 rw [e1] at this
 cases this
 exact ⟨Same.refl _,e2⟩
theorem wk_tup {K:PySem.W.Frag} {a:Addr} {ts:List T}:Wk K (Itt K a) [(.tup ts,.ref a)] ts:=fun H A hA h i=>by
 have h:=h _ List.mem_cons_self
 simp only [At] at h
 obtain ⟨b,vs,e,l,q⟩:=h
 cases e
 have hl:=q.length
 refine ⟨fun hi=>⟨vs,vs[i]'(by omega),l,by simp⟩,fun hi=>⟨vs,l,by omega⟩,fun t ht x H' y=>?_⟩
 obtain ⟨rfl,y⟩:=y
 obtain ⟨v,e1,e2⟩:=q.get ht
 have:=y vs l
 rw [e1] at this
 cases this
 exact ⟨Same.refl _,e2⟩
theorem wk_str {K:PySem.W.Frag} {z:Str}:Wk K (Its z) [] (z.cps.toList.map fun c=>T.str ⟨#[c]⟩):=fun H A hA h i=>by
 refine ⟨fun hi=>by rw [List.length_map,Array.length_toList] at hi; exact hi,fun hi=>by rw [List.length_map,Array.length_toList] at hi; exact Nat.le_of_eq hi,fun t ht x H' y=>?_⟩
 obtain ⟨rfl,c,hc,rfl⟩:=y
 rw [List.getElem?_map,Array.getElem?_toList,hc] at ht
 cases ht
 exact ⟨Same.refl _,at_str⟩
theorem vi_seq {l:Expr} {f:FE} (h:VE X Z l f):VI X Z tg l (fSeq f):=.mk fun tm=>PI.weak (pi_seq (h tm)) fun σ H R ⟨ρ,O,q,I,hf,k⟩=>⟨ρ,O,_,I,hf,fun t ht v H' s a=>by
 split at ht
 · have a0:=a
   simp only [At] at a
   obtain ⟨p,vs,rfl,l,_⟩:=a
   exact .inl ⟨p,rfl,⟨vs,l.sq⟩,k _ ht _ H' _ s (fun p hp=>by rw [List.mem_singleton.mp hp]; exact a0) wk_list⟩
 · have a0:=a
   simp only [At] at a
   obtain ⟨p,vs,rfl,l,_⟩:=a
   exact .inr (.inl ⟨p,rfl,⟨vs,l⟩,k _ ht _ H' _ s (fun p hp=>by rw [List.mem_singleton.mp hp]; exact a0) wk_tup⟩)
 · have e:=a
   simp only [At] at e
   exact .inr (.inr ⟨_,e,k _ ht _ H' [] s (fun p hp=>nomatch hp) wk_str⟩)
 · exact ht.elim⟩
noncomputable def rangeT (lo:Int) (n:Nat):List T:=(List.range n).map fun i=>T.int (lo+((i:Nat):Int))
theorem wk_range {K:PySem.W.Frag} {lo:Int} {n:Nat}:Wk K (Itr lo n) [] (rangeT lo n):=fun H A hA h i=>by
 unfold rangeT
 refine ⟨fun hi=>by rw [List.length_map,List.length_range] at hi; exact hi,fun hi=>by rw [List.length_map,List.length_range] at hi; exact Nat.le_of_eq hi,fun t ht x H' y=>?_⟩
 obtain ⟨rfl,rfl⟩:=y
 rw [List.getElem?_map] at ht
 cases e:(List.range n)[i]? with
 | none=>rw [e] at ht; cases ht
 | some j =>
   rw [e] at ht
   have hj:j=i:=by
    have:=List.getElem?_eq_some_iff.mp e
    obtain ⟨h1,h2⟩:=this
    simpa using h2.symm
   subst hj
   cases ht
   exact ⟨Same.refl _,at_int⟩
noncomputable def pR1 (ts:List T) (Q:List T→Prop):Prop:=match ts with
 | [.int j]=>-(2 ^ 62)≤j∧j < 2 ^ 62∧Q (rangeT 0 j.toNat)
 | _=>False
noncomputable def fRange (g:FA) (p:List T→(List T→Prop)→Prop):FI:=fun ρ Q=>g ρ fun ts=>p ts Q
theorem vi_range1 {a:Expr} {g:FE} {p pos:Pos} (hg:Gl X "range") (hm:X.mg "range" = none) (ha:VR X Z a g) (hs:starEach [a] X.env=[(false,eval a X.env)]:=by rfl) :
  VI X Z tg (.Call (.Name "range" p) [a] [] pos) (fRange (fCons g fNil) pR1):=.mk fun tm=>PI.weak (pi_range1 hg hm ((var_cons ha var_nil hs) tm) hs) fun σ H R ⟨ρ,O,q,I,hf,k⟩=>⟨ρ,O,_,I,hf,fun ts hts vs H' s a=>by
 unfold pR1 at hts
 split at hts
 · obtain ⟨v,rfl,a1⟩:=paired1 a
   exact ⟨_,by rw [a1.int],hts.1,hts.2.1,k _ hts.2.2 _ H' [] s (fun p hp=>nomatch hp) wk_range⟩
 · exact hts.elim⟩
noncomputable abbrev FG:=T→En→(En→Prop)→Prop
noncomputable abbrev FGs:=List T→En→(En→Prop)→Prop
noncomputable def lG (X:Cx) (Z:Zc) (tm:List (T×V)) (is:List Nat) (h:FG):TG:=fun v σ H Q=>∃ ρ O t q,EnvAt X.K Z tm O ρ σ H∧At X.K H (av Z O) t v∧h t ρ q∧∀ ρ',q ρ'→∀ O' σ',EnvAt X.K Z tm O' ρ' σ' H→(∀ a∈roots O',a∈roots O)→(∀ (j:Nat),j∉is→O'[j]?=O[j]?)→σ'.length=σ.length→(∀ (j:Nat),j∉is→σ'[j]?=σ[j]?)→Q σ' H
noncomputable def lGs (X:Cx) (Z:Zc) (tm:List (T×V)) (is:List Nat) (h:FGs):TGs:=fun vs σ H Q=>∃ ρ O ts q,EnvAt X.K Z tm O ρ σ H∧AtL X.K H (av Z O) ts vs∧h ts ρ q∧∀ ρ',q ρ'→∀ O' σ',EnvAt X.K Z tm O' ρ' σ' H→(∀ a∈roots O',a∈roots O)→(∀ (j:Nat),j∉is→O'[j]?=O[j]?)→σ'.length=σ.length→(∀ (j:Nat),j∉is→σ'[j]?=σ[j]?)→Q σ' H
noncomputable def VG (X:Cx) (Z:Zc) (tg:Expr) (is:List Nat) (h:FG):Prop:=Bx fun tm=>PG X tg (lG X Z tm is h)
noncomputable instance {X:Cx} {Z:Zc} {tg:Expr} {is:List Nat} {h:FG}:CoeFun (VG X Z tg is h) fun _=>∀ tm,PG X tg (lG X Z tm is h):=⟨fun h=>Bx.h h⟩
noncomputable def VGs (X:Cx) (Z:Zc) (tgs:List Expr) (is:List Nat) (h:FGs):Prop:=Bx fun tm=>PGs X tgs (lGs X Z tm is h)
noncomputable instance {X:Cx} {Z:Zc} {tgs:List Expr} {is:List Nat} {h:FGs}:CoeFun (VGs X Z tgs is h) fun _=>∀ tm,PGs X tgs (lGs X Z tm is h):=⟨fun h=>Bx.h h⟩
noncomputable def hName (i:Nat):FG:=fun t ρ Q=>Q (ρ.set i (some (t,false)))
theorem vg_name {i:Nat} {x:Str} {pos:Pos} (hN:X.N.Nodup) (hi:X.N[i]?=some x) (hx:Loc X.env.scope x) (hp:NotPar Z i) (hf:X.fn x=true∨X.env.scope.names.lookup x=some .local:=by first | exact .inl rfl | exact .inr rfl | assumption) :
  VG X Z (.Name x pos) [i] (hName i):=.mk fun tm=>PG.weak (pg_name hN hi hx hf) fun v σ H Q ⟨ρ,O,t,q,I,a,h,k⟩ =>
 k _ h _ _ (I.put hp a) (roots_set_sub i) (fun j hj=>List.getElem?_set_ne (fun e=>hj (by simp [e]))) (by simp) fun j hj=>List.getElem?_set_ne (fun e=>hj (by simp [e]))
noncomputable def hNil:FGs:=fun ts ρ Q=>ts=[]∧Q ρ
noncomputable def hCons (h:FG) (hs:FGs):FGs:=fun ts ρ Q=>match ts with
 | t :: r=>h t ρ fun ρ'=>hs r ρ' Q
 | []=>False
noncomputable def hTup (n:Nat) (h:FGs):FG:=fun t ρ Q=>match t with
 | .tup ts=>ts.length=n∧h ts ρ Q
 | _=>False
theorem vgs_nil:VGs X Z [] [] hNil:=.mk fun tm=>PGs.weak pgs_nil fun vs σ H Q ⟨ρ,O,ts,q,I,a,h,k⟩=>by
 obtain ⟨rfl,h⟩:=h
 have e:vs=[]:=by simpa only [AtL] using a
 exact ⟨e,k _ h O σ I (fun _ z=>z) (fun _ _=>rfl) rfl fun _ _=>rfl⟩
theorem vgs_cons {e:Expr} {es:List Expr} {is js:List Nat} {h:FG} {hs:FGs} (h1:VG X Z e is h) (h2:VGs X Z es js hs)
  (hse:(assignEach (e :: es) X.env).map (·.2)=assign e X.env :: (assignEach es X.env).map (·.2):=by rfl):VGs X Z (e :: es) (is ++ js) (hCons h hs):=.mk fun tm=>PGs.weak (pgs_cons (h1 tm) (h2 tm) hse) fun vs σ H Q ⟨ρ,O,ts,q,I,a,hh,k⟩=>by
 unfold hCons at hh
 split at hh
 · simp only [AtL] at a
   obtain ⟨v,r,rfl,a1,a2⟩:=a
   refine ⟨v,r,rfl,ρ,O,_,_,I,a1,hh,fun ρ' hρ O' σ' I' ro eo l e=>⟨ρ',O',_,q,I',a2.fewer fun b hb=>?_,hρ,fun ρ2 h2 O2 σ2 I2 ro2 eo2 l2 e2=>k ρ2 h2 O2 σ2 I2 (fun a z=>ro a (ro2 a z)) (fun j hj=>?_) (l2.trans l) fun j hj=>?_⟩⟩
   · rcases List.mem_append.mp hb with z | z
     · exact List.mem_append_left _ (ro b z)
     · exact List.mem_append_right _ z
   · rw [List.mem_append,not_or] at hj
     exact (eo2 j hj.2).trans (eo j hj.1)
   · rw [List.mem_append,not_or] at hj
     exact (e2 j hj.2).trans (e j hj.1)
 · exact hh.elim
theorem vg_tup {es:List Expr} {k:Nat} {is:List Nat} {h:FGs} {n:Nat} {pos:Pos} (hc:X.calm=true) (hh:VGs X Z es is h)
  (hn:(assignEach es X.env).length=n:=by rfl) (hst:(assignEach es X.env).findIdx? (·.1)=none:=by rfl):VG X Z (.Tuple es k pos) is (hTup n h):=.mk fun tm=>PG.weak (pg_tup hc (hh tm) hn hst) fun v σ H Q ⟨ρ,O,t,q,I,a,h',kk⟩=>by
 unfold hTup at h'
 split at h'
 · simp only [At] at a
   obtain ⟨p,vs,rfl,s,a⟩:=a
   exact ⟨p,vs,rfl,s,a.length.trans h'.1,ρ,O,_,q,I,a,h'.2,kk⟩
 · exact h'.elim
noncomputable def LoopW (ts:List T) (h:FG) (g:FS):FS:=fun d ρ=>∃ Pv:Nat→En→Prop,Pv 0 ρ∧(∀ (i:Nat) t ρ',ts[i]?=some t→Pv i ρ'→h t ρ' fun ρ2=>g { nx:=Pv (i+1),ct:=Pv (i+1),bk:=d.nx,rt:=d.rt } ρ2)∧∀ ρ',Pv ts.length ρ'→d.nx ρ'
noncomputable def gFor (f:FI) (h:FG) (g:FS):FS:=fun d ρ=>f ρ fun ts=>LoopW ts h g d ρ
theorem vs_for {iter:Expr} {body:List Stmt} {f:FI} {is:List Nat} {h:FG} {g:FS} {pos:Pos} (hp:PassesOwn (model X.prog X.w) X.A X.env X.xe) (hc:X.calm=true) (hi:VI X Z tg iter f) (hg:VG X Z tg is h) (hb:VSs X Z body g)
  (hs:∀ x,foldedSetIterable iter X.env x=pure x:=by intro _; rfl):VS X Z (.For tg iter body [] pos) (gFor f h g):=by
 refine .mk fun tm pins s σ H D I0 hw=>?_
 obtain ⟨ρ,O,d,I,q,F⟩:=hw
 refine ps_for (wi:=lI X Z tm f) (g:=fun v σ H Q=>∃ srcs,lG X Z (srcs ++ tm) is h v σ H Q) (tb:=fun D σ H=>∃ srcs,lS X Z (srcs ++ tm) g D σ H) hp hc (hi tm) (fun pins s σ H v u Q I r ⟨srcs,z⟩=>hg (srcs ++ tm) pins s σ H v u Q I r z) (fun pins s σ H D I ⟨srcs,z⟩=>hb (srcs ++ tm) pins s σ H D I z) hs pins s σ H D I0 ?_
 refine ⟨ρ,O,_,I,q,fun ts hts J H' srcs s a wk=>?_⟩
 obtain ⟨Pv,p0,step,fin⟩:=hts
 have J0:EnvAt X.K Z (srcs ++ tm) O ρ σ H':=(I.same s).tmps fun p hp=>by
  rcases List.mem_append.mp hp with z | z
  · exact a p z
  · exact (I.same s).tmp p z
 refine ⟨fun i m σ H=>m=ts.length - i∧i≤ts.length∧∃ ρ O,EnvAt X.K Z (srcs ++ tm) O ρ σ H∧Pv i ρ,⟨ts.length,by simp,Nat.zero_le _,ρ,O,J0,p0⟩,?_⟩
 rintro i m σ1 H1 ⟨rfl,hi,ρ1,O1,I1,p1⟩
 obtain ⟨w1,w2,w3⟩:=wk H1 (av Z O1) I1.avH (fun p hp=>I1.tmp p (List.mem_append_left _ hp)) i
 have un:∀ {O:List (Option Addr)} {ρ:En} {σ:St} {H:Hp},EnvAt X.K Z (srcs ++ tm) O ρ σ H→EnvAt X.K Z tm O ρ σ H:=fun I=>I.tmps fun p hp=>I.tmp p (List.mem_append_right _ hp)
 by_cases hlt:i < ts.length
 · refine .inr ⟨w1 hlt,fun σ' H'=>∃ ρ O,EnvAt X.K Z (srcs ++ tm) O ρ σ' H'∧Pv (i+1) ρ,fun σ' H' ⟨ρ',O',I',p'⟩=>⟨ts.length - (i+1),by omega,rfl,hlt,ρ',O',I',p'⟩,fun x H2 y=>?_⟩
   have e:ts[i]?=some ts[i]:=by simp [hlt]
   obtain ⟨s2,a2⟩:=w3 ts[i] e x H2 y
   refine ⟨srcs,ρ1,O1,ts[i],_,I1.same s2,a2,step i _ ρ1 e p1,fun ρ2 h2 O2 σ2 I2 _ _ _ _=>⟨srcs,ρ2,O2,_,I2,h2,?_⟩⟩
   exact ⟨fun O ρ σ H I p=>⟨ρ,O,I,p⟩,fun O ρ σ H r v z p=>F.rt O ρ σ H r v z.tmps p,fun O ρ σ H I p=>F.nx O ρ σ H (un I) p,fun O ρ σ H I p=>⟨ρ,O,I,p⟩⟩
 · have e:i=ts.length:=by omega
   subst e
   exact .inl ⟨w2 (rfl),F.nx O1 ρ1 σ1 H1 (un I1) (fin ρ1 p1)⟩
end
end VT
namespace VT
open PySem PySem.Spec PyProof.Rows L2
theorem roots_app (O:List (Option Addr)) (n:Nat):roots (O ++ List.replicate n none)=roots O:=by
 unfold roots
 rw [List.filterMap_append]
 have:(List.replicate n (none:Option Addr)).filterMap id=[]:=by
  induction n with
  | zero=>rfl
  | succ n ih=>rw [List.replicate_succ,List.filterMap_cons]; exact ih
 rw [this,List.append_nil]
theorem EnvAt.longer {K:PySem.W.Frag} {Z:Zc} {tm:List (T×V)} {O:List (Option Addr)} {ρ:En} {σ:St} {H:Hp} (I:EnvAt K Z tm O ρ σ H) (n:Nat) {τ:St} (hτ:τ.length=n) :
  EnvAt K Z tm (O ++ List.replicate n none) (ρ ++ List.replicate n none) (σ ++ τ) H:=by
 have ea:av Z (O ++ List.replicate n none)=av Z O:=by unfold av; rw [roots_app]
 refine ⟨by simp [I.lσ,hτ],by simp [I.lO],fun i e h=>?_,by rw [roots_app]; exact I.nd,fun a h=>I.own a (by rw [roots_app] at h; exact h),fun p hp=>?_,I.ox,I.keep,fun p hp=>by rw [ea]; exact I.tmp p hp⟩
 · rw [ea]
   by_cases hi:i < ρ.length
   · rw [List.getElem?_append_left hi] at h
     obtain ⟨o,s,h1,h2,h3⟩:=I.sl i e h
     exact ⟨o,s,by rw [List.getElem?_append_left (by rw [I.lO]; exact hi)]; exact h1,by rw [List.getElem?_append_left (by rw [I.lσ]; exact hi)]; exact h2,h3⟩
   · rw [List.getElem?_append_right (by omega),List.getElem?_replicate] at h
     split at h
     · rename_i hl
       cases h
       refine ⟨none,τ[i - σ.length]'(by rw [I.lσ,hτ]; exact hl),?_,?_,rfl⟩
       · rw [List.getElem?_append_right (by rw [I.lO]; omega),List.getElem?_replicate,if_pos (by rw [I.lO]; exact hl)]
       · rw [List.getElem?_append_right (by rw [I.lσ]; omega)]; simp
     · cases h
 · have:=I.par p hp
   have hl:=(List.getElem?_eq_some_iff.mp this).1
   rw [List.getElem?_append_left hl]; exact this
theorem EnvAt.wroteX {K:PySem.W.Frag} {Z:Zc} {tm:List (T×V)} {O:List (Option Addr)} {ρ:En} {σ:St} {H:Hp} {a:Addr} {u o:HO} (I:EnvAt K (Z.ex a) tm O ρ σ H) (hu:H a=some u) (hm:mutO u=true) (h0:Z.H0 a=none):EnvAt K (Z.ex a) tm O ρ σ (upd H a o):=by
 have hav:a∈av (Z.ex a) O:=List.mem_append_right _ List.mem_cons_self
 have nr:∀ b∈roots O,b≠a:=fun b hb e=>(I.own b hb).2.1 (by rw [e]; exact List.mem_cons_self)
 refine ⟨I.lσ,I.lO,fun i e h=>?_,I.nd,fun b hb=>?_,I.par,fun b hb=>?_,fun b o' e n=>?_,fun p hp=>(I.tmp p hp).wrote hav hu hm⟩
 · obtain ⟨o',s,h1,h2,h3⟩:=I.sl i e h
   refine ⟨o',s,h1,h2,h3.map (fun _ _ q=>q.wrote hav hu hm) fun b t e q=>?_⟩
   subst e
   exact q.map (upd_ne (nr b (mem_roots.mpr (List.mem_of_getElem? h1)))) fun _ _ z=>z.wrote hav hu hm
 · obtain ⟨q1,q2,v,e,m⟩:=I.own b hb
   exact ⟨q1,q2,v,by rw [upd_ne (nr b hb)]; exact e,m⟩
 · by_cases e:b=a
   · subst e; rw [upd_same]; simp
   · rw [upd_ne e]; exact I.ox b hb
 · have:b≠a:=fun e'=>by
    subst e'
    have e2:Z.H0 b=some o':=e
    rw [h0] at e2; cases e2
   rw [upd_ne this]; exact I.keep b o' e n
noncomputable def wComp (h:FG) (fc:FB) (fe:FE) (ρ:En):List T→(List T→Prop)→Prop
 | [],Q=>Q []
 | t :: ts,Q=>h t ρ fun ρ2=>fc ρ2 fun b=>if b=true then fe ρ2 fun u=>wComp h fc fe ρ ts fun us=>Q (u :: us) else wComp h fc fe ρ ts Q
noncomputable def fComp (n:Nat) (is:List Nat) (f:FI) (h:FG) (fc:FB) (fe:FE):FP:=fun ρ Q=>(is.all fun j=>decide (ρ.length≤j))=true∧f ρ fun ts=>ts.length≤sizeLine∧wComp h fc fe (ρ ++ List.replicate n none) ts fun us=>Q (.fr (.lst us))
noncomputable def VCs (X:Cx) (Z:Zc) (ifs:List Expr) (f:FB):Prop:=Bx fun tm=>PTs X ifs (lB X Z tm f)
noncomputable instance {X:Cx} {Z:Zc} {ifs:List Expr} {f:FB}:CoeFun (VCs X Z ifs f) fun _=>∀ tm,PTs X ifs (lB X Z tm f):=⟨fun h=>Bx.h h⟩
noncomputable def fYes:FB:=fun _ Q=>Q true
theorem PTs.weak {X:Cx} {e:List Expr} {t t':TT} (h:PTs X e t) (hw:∀ σ H Q,t' σ H Q→t σ H Q):PTs X e t':=fun pins s σ H Q I q=>h pins s σ H Q I (hw _ _ _ q)
section
variable {X:Cx} {Z:Zc}
theorem vcs_nil:VCs X Z [] fYes:=.mk fun tm=>PTs.weak pts_nil fun σ H Q ⟨ρ,O,q,I,h,k⟩=>k true h H (Same.refl H)
theorem vcs_one {c:Expr} {f:FB} (h:VC X Z c f):VCs X Z [c] f:=.mk fun tm=>pts_one (h tm)
noncomputable def cG (X:Cx) (Z:Zc) (tm:List (T×V)) (is:List Nat) (h:FG):TG:=fun v σ H Q=>∃ D srcs,lG X (Z.ex D) (srcs ++ tm) is h v σ H Q
noncomputable def cB (X:Cx) (Z:Zc) (tm:List (T×V)) (f:FB):TT:=fun σ H Q=>∃ D srcs,lB X (Z.ex D) (srcs ++ tm) f σ H Q
noncomputable def cE (X:Cx) (Z:Zc) (tm:List (T×V)) (f:FE):TE:=fun σ H Q=>∃ D srcs,lE X (Z.ex D) (srcs ++ tm) f σ H Q
theorem comp_W {K:PySem.W.Frag} {Z:Zc} {tm srcs:List (T×V)} {n:Nat} {O:List (Option Addr)} {ρ:En} {σ:St} {H1:Hp} {D:Addr} {J:It} {ts:List T} {h:FG} {fc:FB} {fe:FE} {is:List Nat} {q:Rt→Prop} {Q:VK} (X:Cx) (hK:X.K=K)
  (I:EnvAt K Z (srcs ++ tm) O ρ σ H1) (hD:H1 D=none) (wk:Wk K J srcs ts) (hz:ts.length≤sizeLine) (his:∀ j∈is,ρ.length≤j)
  (hw:wComp h fc fe (ρ ++ List.replicate n none) ts fun us=>q (.fr (.lst us)))
  (k:∀ r,q r→∀ v H',Same H1 H'→RetX K Z tm O ρ σ H' r v→Q v H') :
  CompW J (cG X Z tm is h) (cB X Z tm fc) (cE X Z tm fe) n σ D (Q (.ref D)) H1:=by
 subst hK
 obtain ⟨n1,n2,n3⟩:=I.fresh hD
 refine ⟨fun i m acc H2=>m=ts.length - i∧i≤ts.length∧Same H1 H2∧H2 D=some (.lst acc)∧∃ us,AtL X.K H2 (av (Z.ex D) O) us acc∧acc.length≤i∧EnvAt X.K (Z.ex D) (srcs ++ tm) O ρ σ H2∧wComp h fc fe (ρ ++ List.replicate n none) (ts.drop i) fun r=>q (.fr (.lst (us ++ r))),
  ⟨ts.length,by simp,Nat.zero_le _,same_upd hD,upd_same,[],AtL.nil,Nat.zero_le _,I.new hD rfl,by simpa using hw⟩,?_⟩
 rintro i m acc H2 ⟨rfl,hi,s2,hD2,us,a2,hl,I2,w2⟩
 refine ⟨hD2,?_⟩
 obtain ⟨w1,w2',w3⟩:=wk H2 (av (Z.ex D) O) I2.avH (fun p hp=>I2.tmp p (List.mem_append_left _ hp)) i
 by_cases hlt:i < ts.length
 · refine .inr ⟨w1 hlt,by omega,fun x H3 y=>?_⟩
   have e:ts[i]?=some ts[i]:=by simp [hlt]
   obtain ⟨s3,a3⟩:=w3 ts[i] e x H3 y
   rw [List.drop_eq_getElem_cons hlt] at w2
   have I3:=(I2.same s3).longer n (τ:=List.replicate n none) (by simp)
   have ea:av (Z.ex D) (O ++ List.replicate n none)=av (Z.ex D) O:=by unfold av; rw [roots_app]
   refine ⟨D,srcs,_,_,ts[i],_,I3,by rw [ea]; exact a3,w2,fun ρ4 hρ4 O4 σ4 I4 ro4 eo4 l4 e4=>⟨⟨?_,fun j v hj=>?_⟩,D,srcs,ρ4,O4,_,I4,hρ4,fun b hb H5 s5=>?_⟩⟩
   · rw [l4]; simp
   · have hj':=(List.getElem?_eq_some_iff.mp hj).1
     have:j∉is:=fun z=>by have:=his j z; have:=I.lσ; omega
     rw [e4 j this,List.getElem?_append_left hj']; exact hj
   · have S5:=(s2.trans s3).trans s5
     have J5:=(I2.same s3).same s5
     cases b with
     | true =>
       rw [if_pos rfl] at hb
       refine iteT ⟨D,srcs,ρ4,O4,_,I4.same s5,hb,fun u hu y H6 s6 a6=>?_⟩
       have hD6:=s6 _ _ (s5 _ _ (s3 _ _ hD2))
       refine ⟨hD6,ts.length - (i+1),by omega,rfl,hlt,fun b o e=>?_,upd_same,us ++ [u],?_,by simp; omega,(J5.same s6).wroteX hD6 rfl n3,?_⟩
       · rw [upd_ne (ne_of_none e hD)]; exact s6 _ _ (S5 _ _ e)
       · have hav:D∈av (Z.ex D) O:=List.mem_append_right _ List.mem_cons_self
         have a6':At X.K H6 (av (Z.ex D) O) u y:=a6.fewer fun b hb=>by
          rcases List.mem_append.mp hb with z | z
          · obtain ⟨j,hj⟩:=List.mem_iff_getElem?.mp (mem_roots.mp z)
            have hj':=(List.getElem?_eq_some_iff.mp hj).1
            have nj:j∉is:=fun z=>by have:=his j z; have:=I.lO; omega
            have:=eo4 j nj
            rw [List.getElem?_append_left hj',hj] at this
            exact List.mem_append_left _ (mem_roots.mpr (List.mem_of_getElem? this))
          · exact List.mem_append_right _ z
         exact AtL.wrote hav hD6 rfl ((((a2.same s3).same s5).same s6).append (AtL.cons a6' AtL.nil))
       · have e2:∀ r,(us ++ [u]) ++ r=us ++ (u :: r):=fun r=>by simp
         simp only [e2]
         exact hu
     | false =>
       rw [if_neg Bool.false_ne_true] at hb
       exact iteF ⟨ts.length - (i+1),by omega,rfl,hlt,S5,s5 _ _ (s3 _ _ hD2),us,(a2.same s3).same s5,by omega,J5,hb⟩
 · have e:i=ts.length:=by omega
   subst e
   refine .inl ⟨w2' (rfl),?_⟩
   rw [List.drop_length] at w2
   simp only [wComp,List.append_nil] at w2
   refine k _ w2 _ H2 s2 ⟨D,rfl,I2.tmps fun p hp=>I2.tmp p (List.mem_append_right _ hp),⟨acc,hD2,a2⟩,n3,n2⟩
theorem comp_ok {tm:List (T×V)} {n:Nat} {is:List Nat} {f:FI} {h:FG} {fc:FB} {fe:FE} {σ:St} {H:Hp} {Q:VK} (hq:lP X Z tm (fComp n is f h fc fe) σ H Q):tComp n (lI X Z tm f) (cG X Z tm is h) (cB X Z tm fc) (cE X Z tm fe) σ H Q:=by
 obtain ⟨ρ,O,q,I,⟨his,hf⟩,k⟩:=hq
 refine ⟨ρ,O,_,I,hf,fun ts hts J H' srcs s a wk D hD=>?_⟩
 have I':EnvAt X.K Z (srcs ++ tm) O ρ σ H':=(I.same s).tmps fun p hp=>by
  rcases List.mem_append.mp hp with z | z
  · exact a p z
  · exact (I.same s).tmp p z
 refine comp_W X rfl I' hD wk hts.1 (fun j hj=>?_) hts.2 fun r hr v H2 s2 z=>k r hr v H2 (s.trans s2) z
 have:=List.all_eq_true.mp his j hj
 exact of_decide_eq_true this
variable {ts:List Str} {sc:Scope} {elt iter tg:Expr} {ifs:List Expr} {pos:Pos} {f:FI} {h:FG} {fc:FB} {fe:FE} {is:List Nat}
theorem vp_comp (hc:X.calm=true) (hS:compOk X.N ts X.env.scope sc=true) (hi:VI X Z tg iter f) (hg:∀ D cl C fp s H,VG (compCx X ts sc cl C fp s H) (Z.ex D) tg is h) (ht:∀ D cl C fp s H,VCs (compCx X ts sc cl C fp s H) (Z.ex D) ifs fc)
  (he:∀ D cl C fp s H,VE (compCx X ts sc cl C fp s H) (Z.ex D) elt fe) (hs:∀ x,foldedSetIterable iter X.env x=pure x:=by intro _; rfl):VP X Z (.ListComp elt [⟨tg,iter,ifs,0⟩] sc pos) (fComp ts.length is f h fc fe):=.mk fun tm =>
 PE.weak (pe_comp hc hS (hi tm) (fun cl C fp s H pins s' σ H' v u Q I r ⟨D,srcs,z⟩=>hg D cl C fp s H (srcs ++ tm) pins s' σ H' v u Q I r z) (fun cl C fp s H pins s' σ H' Q I ⟨D,srcs,z⟩=>ht D cl C fp s H (srcs ++ tm) pins s' σ H' Q I z)
  (fun cl C fp s H pins s' σ H' Q I ⟨D,srcs,z⟩=>he D cl C fp s H (srcs ++ tm) pins s' σ H' Q I z) hs) fun σ H Q hq=>comp_ok hq
theorem vs_comp_raw {i:Nat} {y:Str} {py spos:Pos} (hN:X.N.Nodup) (hy:X.N[i]?=some y) (hx:Loc X.env.scope y) (hc:X.calm=true) (hS:compOk X.N ts X.env.scope sc=true) (hi:VI X Z tg iter f) (hg:∀ D cl C fp s H,VG (compCx X ts sc cl C fp s H) (Z.ex D) tg is h)
  (ht:∀ D cl C fp s H,VCs (compCx X ts sc cl C fp s H) (Z.ex D) ifs fc) (he:∀ D cl C fp s H,VE (compCx X ts sc cl C fp s H) (Z.ex D) elt fe)
  (hsw:swapsWith (.ListComp elt [⟨tg,iter,ifs,0⟩] sc pos) (some (.Name y py)) spos.line X.env=pure true)
  (hs:∀ x,foldedSetIterable iter X.env x=pure x) (hf:X.fn y=true∨X.env.scope.names.lookup y=some .local) (tm:List (T×V)) :
  PS X (.Assign [.Name y py] (.ListComp elt [⟨tg,iter,ifs,0⟩] sc pos) spos) (tAsg (lP X Z tm (fComp ts.length is f h fc fe)) (gName i)) :=
 PS.weak (ps_comp hN hy hx hc hS (hi tm) (fun cl C fp s H pins s' σ H' v u Q I r ⟨D,srcs,z⟩=>hg D cl C fp s H (srcs ++ tm) pins s' σ H' v u Q I r z) (fun cl C fp s H pins s' σ H' Q I ⟨D,srcs,z⟩=>ht D cl C fp s H (srcs ++ tm) pins s' σ H' Q I z)
  (fun cl C fp s H pins s' σ H' Q I ⟨D,srcs,z⟩=>he D cl C fp s H (srcs ++ tm) pins s' σ H' Q I z) hsw hs hf) fun D σ H hq=>comp_ok hq
theorem vs_comp {i:Nat} {y:Str} {py spos:Pos} (hN:X.N.Nodup) (hy:X.N[i]?=some y) (hx:Loc X.env.scope y) (hc:X.calm=true) (hS:compOk X.N ts X.env.scope sc=true) (hi:VI X Z tg iter f) (hg:∀ D cl C fp s H,VG (compCx X ts sc cl C fp s H) (Z.ex D) tg is h)
  (ht:∀ D cl C fp s H,VCs (compCx X ts sc cl C fp s H) (Z.ex D) ifs fc) (he:∀ D cl C fp s H,VE (compCx X ts sc cl C fp s H) (Z.ex D) elt fe) (hp:NotPar Z i)
  (hsw:swapsWith (.ListComp elt [⟨tg,iter,ifs,0⟩] sc pos) (some (.Name y py)) spos.line X.env=pure true:=by rfl)
  (hs:∀ x,foldedSetIterable iter X.env x=pure x:=by intro _; rfl) (hf:X.fn y=true∨X.env.scope.names.lookup y=some .local:=by first | exact .inl rfl | exact .inr rfl | assumption) :
  VS X Z (.Assign [.Name y py] (.ListComp elt [⟨tg,iter,ifs,0⟩] sc pos) spos) (gSet i (fX (fComp ts.length is f h fc fe))):=.mk fun tm =>
 PS.weak (vs_comp_raw hN hy hx hc hS hi hg ht he hsw hs hf tm) fun D σ H ⟨ρ,O,d,I,q,F⟩=>⟨ρ,O,_,I,q,fun r hr v H' s z=>F.nx _ _ _ H' (z.env.put hp z.at) hr⟩
theorem vs_compO {i:Nat} {y:Str} {py spos:Pos} (hN:X.N.Nodup) (hy:X.N[i]?=some y) (hx:Loc X.env.scope y) (hc:X.calm=true) (hS:compOk X.N ts X.env.scope sc=true) (hi:VI X Z tg iter f) (hg:∀ D cl C fp s H,VG (compCx X ts sc cl C fp s H) (Z.ex D) tg is h)
  (ht:∀ D cl C fp s H,VCs (compCx X ts sc cl C fp s H) (Z.ex D) ifs fc) (he:∀ D cl C fp s H,VE (compCx X ts sc cl C fp s H) (Z.ex D) elt fe) (hp:NotPar Z i)
  (hsw:swapsWith (.ListComp elt [⟨tg,iter,ifs,0⟩] sc pos) (some (.Name y py)) spos.line X.env=pure true:=by rfl)
  (hs:∀ x,foldedSetIterable iter X.env x=pure x:=by intro _; rfl) (hf:X.fn y=true∨X.env.scope.names.lookup y=some .local:=by first | exact .inl rfl | exact .inr rfl | assumption) :
  VS X Z (.Assign [.Name y py] (.ListComp elt [⟨tg,iter,ifs,0⟩] sc pos) spos) (gOwn i (fX (fComp ts.length is f h fc fe))):=.mk fun tm =>
 PS.weak (vs_comp_raw hN hy hx hc hS hi hg ht he hsw hs hf tm) fun D σ H ⟨ρ,O,d,I,q,F⟩=>⟨ρ,O,_,I,q,fun r hr v H' s z=>by
  cases r with
  | fr t =>
    obtain ⟨a,rfl,J,hR,h0,hx'⟩:=z
    exact F.nx _ _ _ H' (J.own' hp hR h0 hx') hr
  | vw t=>exact (show False from hr).elim⟩
end
end VT
namespace VT
open PySem PySem.Spec PyProof.Rows L2
noncomputable def ArgsAt (K:PySem.W.Frag) (H:Hp) (A:List Addr):List Bool→List Addr→List T→List V→Prop
 | [],as,ts,vs=>as=[]∧ts=[]∧vs=[]
 | false :: fs,as,ts,vs=>∃ t ts' v vs',ts=t :: ts'∧vs=v :: vs'∧At K H A t v∧ArgsAt K H A fs as ts' vs'
 | true :: fs,as,ts,vs=>∃ a as' t ts' vs',as=a :: as'∧ts=t :: ts'∧vs = .ref a :: vs'∧Root K H A a t∧ArgsAt K H A fs as' ts' vs'
noncomputable def RtAt (K:PySem.W.Frag) (H:Hp) (as Ox:List Addr) (H':Hp) (us:List T):Rt→V→Prop
 | .vw t,v=>At K H' (as ++ Ox) t v∧Paired (fun a u=>Root K H' (as ++ Ox) a u) as us
 | .fr t,v=>∃ b,v = .ref b∧H b=none∧b∉as∧Root K H' (b :: (as ++ Ox)) b t∧Paired (fun a u=>Root K H' (b :: (as ++ Ox)) a u) as us
noncomputable abbrev GT:=List T→(List T→Rt→Prop)→Prop
noncomputable def spOf (K:PySem.W.Frag) (fs:List Bool) (G:GT):Sp:=fun vs H Q _=>∃ ts as Ox q,as.Nodup∧(∀ a∈as,a∉Ox)∧(∀ a∈Ox,H a≠none)∧ArgsAt K H (as ++ Ox) fs as ts vs∧G ts q ∧
 ∀ us r,q us r→∀ v H',(∀ b o,H b=some o→b∉as→H' b=some o)→RtAt K H as Ox H' us r v→Q v H'
noncomputable def ro:List Bool→List Addr→List (Option Addr)
 | [],_=>[]
 | false :: fs,as=>none :: ro fs as
 | true :: fs,a :: as=>some a :: ro fs as
 | true :: fs,[]=>none :: ro fs []
noncomputable def pz:List Bool→List Addr→Nat→List (Nat×Addr)
 | [],_,_=>[]
 | false :: fs,as,k=>pz fs as (k+1)
 | true :: fs,a :: as,k=>(k,a) :: pz fs as (k+1)
 | true :: fs,[],k=>pz fs [] (k+1)
noncomputable def en0:List Bool→List T→En
 | f :: fs,t :: ts=>some (t,f) :: en0 fs ts
 | _,_=>[]
noncomputable def fins:List Bool→En→List T
 | [],_=>[]
 | false :: fs,ρ=>fins fs ρ.tail
 | true :: fs,some (t,_) :: ρ=>t :: fins fs ρ
 | true :: fs,ρ=>.non :: fins fs ρ.tail
section
variable {K:PySem.W.Frag} {H:Hp} {A:List Addr}
theorem args_len:∀ {fs:List Bool} {as:List Addr} {ts:List T} {vs:List V},ArgsAt K H A fs as ts vs→ts.length=fs.length∧vs.length=fs.length∧(ro fs as).length=fs.length∧(en0 fs ts).length=fs.length∧roots (ro fs as)=as
 | [],as,ts,vs,h=>by obtain ⟨rfl,rfl,rfl⟩:=h; exact ⟨rfl,rfl,rfl,rfl,rfl⟩
 | false :: fs,as,ts,vs,h=>by
   obtain ⟨t,ts',v,vs',rfl,rfl,_,h⟩:=h
   obtain ⟨h1,h2,h3,h4,h5⟩:=args_len h
   exact ⟨by simp [h1],by simp [h2],by simp [ro,h3],by simp [en0,h4],by simpa [ro,roots] using h5⟩
 | true :: fs,as,ts,vs,h=>by
   obtain ⟨a,as',t,ts',vs',rfl,rfl,rfl,_,h⟩:=h
   obtain ⟨h1,h2,h3,h4,h5⟩:=args_len h
   refine ⟨by simp [h1],by simp [h2],by simp [ro,h3],by simp [en0,h4],?_⟩
   simp only [ro,roots,List.filterMap_cons,id] at h5 ⊢
   rw [h5]
theorem args_env:∀ {fs:List Bool} {as:List Addr} {ts:List T} {vs:List V},ArgsAt K H A fs as ts vs→∀ (i:Nat) e,(en0 fs ts)[i]?=some e→∃ o s,(ro fs as)[i]?=some o∧(vs.map some)[i]?=some s∧SlotAt K H A e o s
 | [],as,ts,vs,h,i,e,he=>by simp [en0] at he
 | false :: fs,as,ts,vs,h,i,e,he=>by
   obtain ⟨t,ts',v,vs',rfl,rfl,a,h⟩:=h
   cases i with
   | zero=>simp only [en0,List.getElem?_cons_zero,Option.some.injEq] at he; subst he; exact ⟨none,some v,rfl,rfl,rfl,v,rfl,a⟩
   | succ i=>exact args_env h i e (by simpa [en0] using he)
 | true :: fs,as,ts,vs,h,i,e,he=>by
   obtain ⟨a,as',t,ts',vs',rfl,rfl,rfl,r,h⟩:=h
   cases i with
   | zero=>simp only [en0,List.getElem?_cons_zero,Option.some.injEq] at he; subst he; exact ⟨some a,some (.ref a),rfl,rfl,a,rfl,rfl,r⟩
   | succ i=>exact args_env h i e (by simpa [en0] using he)
theorem args_root:∀ {fs:List Bool} {as:List Addr} {ts:List T} {vs:List V},ArgsAt K H A fs as ts vs→∀ a∈as,∃ t,Root K H A a t
 | [],as,ts,vs,h,a,ha=>by obtain ⟨rfl,rfl,rfl⟩:=h; cases ha
 | false :: fs,as,ts,vs,h,a,ha=>by obtain ⟨t,ts',v,vs',rfl,rfl,_,h⟩:=h; exact args_root h a ha
 | true :: fs,as,ts,vs,h,a,ha=>by
   obtain ⟨b,as',t,ts',vs',rfl,rfl,rfl,r,h⟩:=h
   rcases List.mem_cons.mp ha with z | z
   · subst z; exact ⟨t,r⟩
   · exact args_root h a z
theorem pz_ok:∀ {fs:List Bool} {as:List Addr} {ts:List T} {vs:List V} (k:Nat),ArgsAt K H A fs as ts vs→(pz fs as k).map (·.2)=as∧∀ p∈pz fs as k,k≤p.1∧(ro fs as)[p.1 - k]?=some (some p.2)
 | [],as,ts,vs,k,h=>by obtain ⟨rfl,rfl,rfl⟩:=h; exact ⟨rfl,fun _ z=>nomatch z⟩
 | false :: fs,as,ts,vs,k,h=>by
   obtain ⟨t,ts',v,vs',rfl,rfl,_,h⟩:=h
   obtain ⟨h1,h2⟩:=pz_ok (k+1) h
   refine ⟨h1,fun p hp=>?_⟩
   obtain ⟨l,e⟩:=h2 p hp
   refine ⟨by omega,?_⟩
   have:p.1 - k=(p.1 - (k+1))+1:=by omega
   rw [this]
   simpa [ro] using e
 | true :: fs,as,ts,vs,k,h=>by
   obtain ⟨a,as',t,ts',vs',rfl,rfl,rfl,_,h⟩:=h
   obtain ⟨h1,h2⟩:=pz_ok (k+1) h
   refine ⟨by simp [pz,h1],fun p hp=>?_⟩
   rcases List.mem_cons.mp hp with z | z
   · subst z; exact ⟨Nat.le_refl _,by simp [ro]⟩
   · obtain ⟨l,e⟩:=h2 p z
     refine ⟨by omega,?_⟩
     have:p.1 - k=(p.1 - (k+1))+1:=by omega
     rw [this]
     simpa [ro] using e
theorem fins_ok {R:Addr→T→Prop} {ρ:En}:∀ {fs:List Bool} {as:List Addr} {ts:List T} {vs:List V} (k:Nat),ArgsAt K H A fs as ts vs→(∀ p∈pz fs as k,∃ t,ρ[p.1]?=some (some (t,true))∧R p.2 t)→Paired R as (fins fs (ρ.drop k))
 | [],as,ts,vs,k,h,_=>by obtain ⟨rfl,rfl,rfl⟩:=h; exact .nil
 | false :: fs,as,ts,vs,k,h,q=>by
   obtain ⟨t,ts',v,vs',rfl,rfl,_,h⟩:=h
   have:=fins_ok (k+1) h q
   simp only [fins,List.tail_drop]
   exact this
 | true :: fs,as,ts,vs,k,h,q=>by
   obtain ⟨a,as',t,ts',vs',rfl,rfl,rfl,_,h⟩:=h
   have:=fins_ok (ρ:=ρ) (k+1) h fun p hp=>q p (List.mem_cons_of_mem _ hp)
   obtain ⟨u,e,r⟩:=q (k,a) List.mem_cons_self
   have hk:k < ρ.length:=(List.getElem?_eq_some_iff.mp e).1
   have e2:ρ[k]=some (u,true):=by rw [List.getElem?_eq_getElem hk] at e; exact Option.some.inj e
   rw [List.drop_eq_getElem_cons hk,e2]
   exact .cons r this
end
section
variable {P:Program} {w:World} {K:PySem.W.Frag} {mg:Str→Option Value} {base:Heap}
theorem fnV {x qual:Str} {st:Stmt} {f:Addr} {fd:FuncData} {N ps:List Str} {k:Nat} {fs:List Bool} {G:GT} (F:Fun K x qual st f fd) (S:FnScope N ps (defScope st)) (hfs:fs.length=ps.length)
  (hbody:∀ (cdv:Value) (A:Around) (outer:List Env) (s:Shared) (H:Hp) (E:XK) (as Ox:List Addr),Room k (A.deeper (envOfC qual (defScope st) s.heap.objs.size f cdv))→∀ ts q,ts.length=fs.length→G ts q →
    ∃ g,VSs (cxOf CX0 P w K mg base N qual (defScope st) f cdv A outer s H E).nox ⟨H,pz fs as 0,Ox⟩ (defBody st) g∧g { nx:=fun ρ=>q (fins fs ρ) (.vw .non),rt:=fun ρ r=>q (fins fs ρ) r } (en0 fs ts ++ List.replicate (N.length - ts.length) none)) :
  FnOk P w K mg base CX0 (k+1) f fd ps (spOf K fs G):=by
 refine F.ok S (fun vs H Q E h=>?_) (fun cdv A outer s H vs Q E hr h=>?_)
 · obtain ⟨ts,as,Ox,q,_,_,_,ha,_⟩:=h
   rw [← hfs]; exact (args_len ha).2.1
 · obtain ⟨ts,as,Ox,q,nd,nx,ox,ha,hG,kk⟩:=h
   obtain ⟨l1,l2,l3,l4,l5⟩:=args_len ha
   obtain ⟨p1,p2⟩:=pz_ok 0 ha
   obtain ⟨g,hg,hq⟩:=hbody cdv A outer s H E as Ox hr ts q l1 hG
   have ea:av ⟨H,pz fs as 0,Ox⟩ (ro fs as ++ List.replicate (N.length - ts.length) none)=as ++ Ox:=by unfold av; rw [roots_app,l5]
   have eavZ:∀ H0 P (O:List (Option Addr)),av ⟨H0,P,Ox⟩ O=roots O ++ Ox:=fun _ _ _=>rfl
   have I0:EnvAt K ⟨H,pz fs as 0,Ox⟩ [] (ro fs as ++ List.replicate (N.length - ts.length) none) (en0 fs ts ++ List.replicate (N.length - ts.length) none) (start N vs) H:=by
    refine ⟨?_,?_,fun i e he=>?_,by rw [roots_app,l5]; exact nd,fun a h=>?_,fun p hp=>?_,ox,fun b o e _=>e,fun p hp=>nomatch hp⟩
    · unfold L2.start; simp [l2,l4,l1]
    · simp [l3,l4]
    · rw [ea]
      by_cases hi:i < fs.length
      · rw [List.getElem?_append_left (by rw [l4]; exact hi)] at he
        obtain ⟨o,s,h1,h2,h3⟩:=args_env ha i e he
        refine ⟨o,s,by rw [List.getElem?_append_left (by rw [l3]; exact hi)]; exact h1,?_,h3⟩
        unfold L2.start
        rw [List.getElem?_append_left (by rw [List.length_map,l2]; exact hi)]; exact h2
      · rw [List.getElem?_append_right (by omega),List.getElem?_replicate] at he
        split at he
        · rename_i hl
          cases he
          refine ⟨none,none,?_,?_,rfl⟩
          · rw [List.getElem?_append_right (by omega),List.getElem?_replicate,if_pos (by rw [l3]; rw [l4] at hl; exact hl)]
          · unfold L2.start
            rw [List.getElem?_append_right (by rw [List.length_map]; omega),List.getElem?_replicate,List.length_map,if_pos (by rw [l2]; rw [l4,l1] at hl; exact hl)]
        · cases he
    · rw [roots_app,l5] at h
      obtain ⟨t,r⟩:=args_root ha a h
      exact ⟨.inl (by show a∈(pz fs as 0).map (·.2); rw [p1]; exact h),nx a h,r.mut⟩
    · obtain ⟨_,e⟩:=p2 p hp
      rw [Nat.sub_zero] at e
      rw [List.getElem?_append_left (List.getElem?_eq_some_iff.mp e).1]; exact e
   have fin:∀ {O:List (Option Addr)} {ρ:En} {σ:St} {H':Hp} {Z':Zc},Z'.P=pz fs as 0→EnvAt K Z' [] O ρ σ H'→Paired (fun a u=>Root K H' (av Z' O) a u) as (fins fs ρ):=fun {O ρ σ H' Z'} eP I=>by
    have:=fins_ok (ρ:=ρ) (R:=fun a u=>Root K H' (av Z' O) a u) 0 ha fun p hp=>?_
    · rw [List.drop_zero] at this; exact this
    · have e:=I.par p (by rw [eP]; exact hp)
      have hl:=(List.getElem?_eq_some_iff.mp e).1
      have hl':p.1 < ρ.length:=by rw [← I.lO]; exact hl
      obtain ⟨o,s',h1,h2,h3⟩:=I.sl p.1 ρ[p.1] (by simp)
      rw [e] at h1
      cases h1
      cases q:ρ[p.1] with
      | none=>rw [q] at h3; cases h3
      | some tb =>
        obtain ⟨t,b⟩:=tb
        rw [q] at h3
        cases b with
        | false=>cases h3.1
        | true =>
          obtain ⟨a',e1,_,r⟩:=h3
          cases e1
          exact ⟨t,by rw [← q]; simp,r⟩
   have keep:∀ {O:List (Option Addr)} {ρ:En} {σ:St} {H':Hp} {Z':Zc},Z'.H0=H→Z'.P=pz fs as 0→EnvAt K Z' [] O ρ σ H'→∀ b o,H b=some o→b∉as→H' b=some o:=fun e0 eP I b o e n=>I.keep b o (by rw [e0]; exact e) (by rw [eP,p1]; exact n)
   have sub:∀ {O:List (Option Addr)} {ρ:En} {σ:St} {H':Hp} {Z':Zc},Z'.P=pz fs as 0→EnvAt K Z' [] O ρ σ H'→∀ a∈as,a∈roots O:=fun eP I a h=>by
    have:a∈(pz fs as 0).map (·.2):=by rw [p1]; exact h
    obtain ⟨p,hp,rfl⟩:=List.mem_map.mp this
    exact mem_roots.mpr (List.mem_of_getElem? (I.par p (by rw [eP]; exact hp)))
   refine ⟨_,hg [],_,_,_,I0,hq,⟨fun O ρ σ H' I h=>?_,fun O ρ σ H' r v z h=>?_,fun _ _ _ _ _ h=>h.elim,fun _ _ _ _ _ h=>h.elim⟩⟩
   · have sb:∀ a∈as ++ Ox,a∈av ⟨H,pz fs as 0,Ox⟩ O:=fun a h=>by
      rcases List.mem_append.mp h with h | h
      · exact List.mem_append_left _ (sub rfl I a h)
      · exact List.mem_append_right _ h
     exact kk _ _ h .non H' (keep rfl rfl I) ⟨at_non,Paired.mapP (fin rfl I) fun _ _ q=>q.fewer sb⟩
   · cases r with
     | vw t =>
       obtain ⟨I,a⟩:=z
       have sb:∀ a∈as ++ Ox,a∈av ⟨H,pz fs as 0,Ox⟩ O:=fun a h=>by
        rcases List.mem_append.mp h with h | h
        · exact List.mem_append_left _ (sub rfl I a h)
        · exact List.mem_append_right _ h
       exact kk _ _ h v H' (keep rfl rfl I) ⟨a.fewer sb,Paired.mapP (fin rfl I) fun _ _ q=>q.fewer sb⟩
     | fr t =>
       obtain ⟨b,rfl,I,hR,h0,hx⟩:=z
       have sb:∀ a∈b :: (as ++ Ox),a∈av (Zc.ex ⟨H,pz fs as 0,Ox⟩ b) O:=fun a h=>by
        rcases List.mem_cons.mp h with h | h
        · rw [h]; exact List.mem_append_right _ List.mem_cons_self
        · rcases List.mem_append.mp h with h | h
          · exact List.mem_append_left _ (sub rfl I a h)
          · exact List.mem_append_right _ (List.mem_cons_of_mem _ h)
       exact kk _ _ h (.ref b) H' (keep rfl rfl I) ⟨b,rfl,h0,fun hb=>(I.own b (sub rfl I b hb)).2.1 List.mem_cons_self,hR.fewer sb,Paired.mapP (fin rfl I) fun _ _ q=>q.fewer sb⟩
end
end VT
namespace VT
open PySem PySem.Spec PyProof.Rows L2
noncomputable def spP (K:PySem.W.Frag) (n:Nat) (G:List T→(Rt→Prop)→Prop):Sp:=spOf K (List.replicate n false) fun ts q=>G ts (q [])
section
variable {K:PySem.W.Frag} {H:Hp} {A:List Addr}
theorem args_views:∀ {n:Nat} {ts:List T} {vs:List V},ts.length=n→AtL K H A ts vs→ArgsAt K H A (List.replicate n false) [] ts vs
 | 0,ts,vs,l,h=>by
   have e:ts=[]:=List.length_eq_zero_iff.mp l
   subst e
   simp only [AtL] at h
   exact ⟨rfl,rfl,h⟩
 | n+1,ts,vs,l,h=>by
   cases ts with
   | nil=>simp at l
   | cons t ts =>
     simp only [AtL] at h
     obtain ⟨v,r,rfl,h1,h2⟩:=h
     exact ⟨t,ts,v,r,rfl,rfl,h1,args_views (by simpa using l) h2⟩
end
theorem EnvAt.newAt {K:PySem.W.Frag} {Z:Zc} {tm:List (T×V)} {O:List (Option Addr)} {ρ:En} {σ:St} {H H':Hp} (I:EnvAt K Z tm O ρ σ H) {a:Addr} (h:H a=none) (s:Same H H') {u:HO} (hu:H' a=some u):EnvAt K (Z.ex a) tm O ρ σ H':=by
 have J:=I.same s
 obtain ⟨n1,n2,n3⟩:=I.fresh h
 have mr:∀ b∈av (Z.ex a) O,b∈av Z O∨H b=none:=fun b hb=>(av_ex_sub b hb).imp id fun e=>by rw [e]; exact h
 have fw:∀ {t:T} {v:V},At K H (av Z O) t v→At K H' (av (Z.ex a) O) t v:=fun q=>(q.more mr).same s
 refine ⟨J.lσ,J.lO,fun i e hi=>?_,J.nd,fun b hb=>?_,J.par,fun b hb=>?_,J.keep,fun p hp=>fw (I.tmp p hp)⟩
 · obtain ⟨o,w,h1,h2,h3⟩:=I.sl i e hi
   refine ⟨o,w,h1,h2,h3.map (fun _ _ q=>fw q) fun b t eo q=>?_⟩
   exact Root.same (q.map rfl fun _ _ z=>z.more mr) s
 · obtain ⟨q1,q2,q3⟩:=J.own b hb
   refine ⟨q1,fun z=>?_,q3⟩
   rcases List.mem_cons.mp z with z | z
   · exact n1 (by rw [← z]; exact List.mem_append_left _ hb)
   · exact q2 z
 · rcases List.mem_cons.mp hb with z | z
   · rw [z,hu]; simp
   · exact J.ox b z
noncomputable def fCallV (n:Nat) (g:FA) (G:List T→(Rt→Prop)→Prop):FP:=fun ρ Q=>g ρ fun ts=>ts.length=n∧G ts Q
section
variable {X:Cx} {Z:Zc} {k n:Nat} {f:Addr} {fd:FuncData} {ps:List Str} {G:List T→(Rt→Prop)→Prop} {x:Str} {p pos:Pos} {e:Expr} {es:List Expr} {g:FA}
theorem call_ok {tm:List (T×V)} {O:List (Option Addr)} {ρ:En} {σ:St} {H:Hp} {ts:List T} {vs:List V} {q:Rt→Prop} {Q:VK} (I:EnvAt X.K Z tm O ρ σ H) (a:AtL X.K H (av Z O) ts vs) (hn:ts.length=n) (hG:G ts q)
  (k:∀ r,q r→∀ v H',Same H H'→RetX X.K Z tm O ρ σ H' r v→Q v H'):spP X.K n G (vs ++ []) H Q E0:=by
 rw [List.append_nil]
 refine ⟨ts,[],av Z O,fun _ r=>q r,List.nodup_nil,fun _ z=>absurd z List.not_mem_nil,I.avH,args_views hn a,hG,fun us r hr v H' fr z=>?_⟩
 have s:Same H H':=fun b o e=>fr b o e List.not_mem_nil
 cases r with
 | vw t=>exact k _ hr v H' s ⟨I.same s,z.1⟩
 | fr t =>
   obtain ⟨b,rfl,hb,_,hR,_⟩:=z
   obtain ⟨n1,n2,n3⟩:=I.fresh hb
   obtain ⟨u,eu,_⟩:=hR.mut
   refine k _ hr _ H' s ⟨b,rfl,I.newAt hb s eu,hR.fewer fun c hc=>?_,n3,n2⟩
   rcases av_ex_sub c hc with z | z
   · exact List.mem_cons_of_mem _ z
   · rw [z]; exact List.mem_cons_self
theorem vp_call (F:FnOk X.prog X.w X.K X.mg X.base CX0 k f fd ps (spP X.K n G)) (hr:Room k X.A) (hg:Gl X x) (hm:X.mg x=some (.ref f)) (hk:PySem.W.keepIn X.K (.ref f)=true) (hb:Binds X.K fd ps []) (ha:VA X Z (e :: es) g)
  (hdb:(x == ("__debug__" : Str))=false:=by decide) (he:starEach (e :: es) X.env=(false,eval e X.env) :: starEach es X.env:=by rfl) (hpl:(backTo pos (starEach es X.env)).any (·.1)=false:=by rfl) :
  VP X Z (.Call (.Name x p) (e :: es) [] pos) (fCallV n g G):=.mk fun tm=>PE.weak (pe_call F hr hg hm hk hb .nil pass0 (ha tm) hdb he hpl) fun σ H Q ⟨ρ,O,q,I,hf,k⟩ =>
 ⟨ρ,O,_,I,hf,fun ts hts vs H1 s1 a1=>call_ok (I.same s1) a1 hts.1 hts.2 fun r hr v H' s z=>k r hr v H' (s1.trans s) z⟩
end
noncomputable def AM (K:PySem.W.Frag) (H:Hp) (A:List Addr) (O:List (Option Addr)) (ρ:En):List (Option Nat)→List T→List V→Prop
 | [],ts,vs=>ts=[]∧vs=[]
 | none :: ms,ts,vs=>∃ t ts' v vs',ts=t :: ts'∧vs=v :: vs'∧At K H A t v∧AM K H A O ρ ms ts' vs'
 | some k :: ms,ts,vs=>∃ a t ts' vs',ts=t :: ts'∧vs = .ref a :: vs'∧ρ[k]?=some (some (t,true))∧O[k]?=some (some a)∧AM K H A O ρ ms ts' vs'
noncomputable def lAM (X:Cx) (Z:Zc) (tm:List (T×V)) (ms:List (Option Nat)) (f:FA):TA:=fun σ H Q=>∃ ρ O q,EnvAt X.K Z tm O ρ σ H∧f ρ q∧∀ ts,q ts→∀ vs H',Same H H'→AM X.K H' (av Z O) O ρ ms ts vs→Q vs H'
noncomputable def VAM (X:Cx) (Z:Zc) (es:List Expr) (ms:List (Option Nat)) (f:FA):Prop:=Bx fun tm=>PA X es (lAM X Z tm ms f)
noncomputable instance {X:Cx} {Z:Zc} {es:List Expr} {ms:List (Option Nat)} {f:FA}:CoeFun (VAM X Z es ms f) fun _=>∀ tm,PA X es (lAM X Z tm ms f):=⟨fun h=>Bx.h h⟩
section
variable {X:Cx} {Z:Zc} {e:Expr} {es:List Expr} {g:FA}
end
noncomputable def putK:List Nat→List T→En→En
 | k :: ks,u :: us,ρ=>putK ks us (ρ.set k (some (u,true)))
 | _,_,ρ=>ρ
section
variable {K:PySem.W.Frag} {H H':Hp} {A:List Addr}
end
section
variable {X:Cx} {Z:Zc} {k:Nat} {f:Addr} {fd:FuncData} {ps:List Str} {fs:List Bool} {G:GT} {x:Str} {p pos:Pos} {e:Expr} {es:List Expr} {g:FA} {ms:List (Option Nat)}
theorem inj_O {K:PySem.W.Frag} {tm:List (T×V)} {O:List (Option Addr)} {ρ:En} {σ:St} {H:Hp} (I:EnvAt K Z tm O ρ σ H) {i j:Nat} {a:Addr} (h1:O[i]?=some (some a)) (h2:O[j]?=some (some a)):i=j:=by
 have key:∀ (O:List (Option Addr)) (i j:Nat),i < j→O[i]?=some (some a)→O[j]?=some (some a)→(roots O).Nodup→False:=by
  intro O
  induction O with
  | nil=>intro i j _ h; simp at h
  | cons o O ih =>
    intro i j hij e1 e2 nd
    cases j with
    | zero=>omega
    | succ j =>
      have e2':O[j]?=some (some a):=by simpa using e2
      cases i with
      | zero =>
        have:o=some a:=by simpa using e1
        subst this
        simp only [roots,List.filterMap_cons,id] at nd
        exact (List.nodup_cons.mp nd).1 (mem_roots.mpr (List.mem_of_getElem? e2'))
      | succ i =>
        refine ih i j (by omega) (by simpa using e1) e2' ?_
        cases o with
        | none=>simpa [roots] using nd
        | some b=>simp only [roots,List.filterMap_cons,id] at nd; exact (List.nodup_cons.mp nd).2
 rcases Nat.lt_trichotomy i j with l | l | l
 · exact (key O i j l h1 h2 I.nd).elim
 · exact l
 · exact (key O j i l h2 h1 I.nd).elim
theorem paired_getL {α β:Type} {F:α→β→Prop}:∀ {l₁:List α} {l₂:List β} {i:Nat} {a:α},Paired F l₁ l₂→l₁[i]?=some a→∃ b,l₂[i]?=some b∧F a b
 | _,_,_,_,.nil,e=>by simp at e
 | _,_,0,_,.cons r _,e=>by simp at e; subst e; exact ⟨_,rfl,r⟩
 | _,_,i+1,b,.cons _ t,e=>by
   obtain ⟨a,h1,h2⟩:=paired_getL (i:=i) (a:=b) t (by simpa using e)
   exact ⟨a,by simpa using h1,h2⟩
end
end VT
namespace VT
open PySem PySem.Spec PyProof.Rows L2
section
variable (K:PySem.W.Frag)
theorem kit_int_int:PySem.W.kitOne K (.type "int") (.type "int")=some true:=by kernel_rfl
theorem kit_int_bool:PySem.W.kitOne K (.type "int") (.type "bool")=some false:=by kernel_rfl
theorem kit_int_str:PySem.W.kitOne K (.type "int") (.type "str")=some false:=by kernel_rfl
theorem kit_int_list:PySem.W.kitOne K (.type "int") (.type "list")=some false:=by kernel_rfl
theorem kit_int_tuple:PySem.W.kitOne K (.type "int") (.type "tuple")=some false:=by kernel_rfl
theorem kit_bool_int:PySem.W.kitOne K (.type "bool") (.type "int")=some true:=by kernel_rfl
theorem kit_bool_bool:PySem.W.kitOne K (.type "bool") (.type "bool")=some true:=by kernel_rfl
theorem kit_bool_str:PySem.W.kitOne K (.type "bool") (.type "str")=some false:=by kernel_rfl
theorem kit_bool_list:PySem.W.kitOne K (.type "bool") (.type "list")=some false:=by kernel_rfl
theorem kit_bool_tuple:PySem.W.kitOne K (.type "bool") (.type "tuple")=some false:=by kernel_rfl
theorem kit_str_int:PySem.W.kitOne K (.type "str") (.type "int")=some false:=by kernel_rfl
theorem kit_str_bool:PySem.W.kitOne K (.type "str") (.type "bool")=some false:=by kernel_rfl
theorem kit_str_str:PySem.W.kitOne K (.type "str") (.type "str")=some true:=by kernel_rfl
theorem kit_str_list:PySem.W.kitOne K (.type "str") (.type "list")=some false:=by kernel_rfl
theorem kit_str_tuple:PySem.W.kitOne K (.type "str") (.type "tuple")=some false:=by kernel_rfl
theorem kit_list_int:PySem.W.kitOne K (.type "list") (.type "int")=some false:=by kernel_rfl
theorem kit_list_bool:PySem.W.kitOne K (.type "list") (.type "bool")=some false:=by kernel_rfl
theorem kit_list_str:PySem.W.kitOne K (.type "list") (.type "str")=some false:=by kernel_rfl
theorem kit_list_list:PySem.W.kitOne K (.type "list") (.type "list")=some true:=by kernel_rfl
theorem kit_list_tuple:PySem.W.kitOne K (.type "list") (.type "tuple")=some false:=by kernel_rfl
theorem kit_tuple_int:PySem.W.kitOne K (.type "tuple") (.type "int")=some false:=by kernel_rfl
theorem kit_tuple_bool:PySem.W.kitOne K (.type "tuple") (.type "bool")=some false:=by kernel_rfl
theorem kit_tuple_str:PySem.W.kitOne K (.type "tuple") (.type "str")=some false:=by kernel_rfl
theorem kit_tuple_list:PySem.W.kitOne K (.type "tuple") (.type "list")=some false:=by kernel_rfl
theorem kit_tuple_tuple:PySem.W.kitOne K (.type "tuple") (.type "tuple")=some true:=by kernel_rfl
theorem kit_dict_int:PySem.W.kitOne K (.type "dict") (.type "int")=some false:=by kernel_rfl
theorem kit_dict_bool:PySem.W.kitOne K (.type "dict") (.type "bool")=some false:=by kernel_rfl
theorem kit_dict_str:PySem.W.kitOne K (.type "dict") (.type "str")=some false:=by kernel_rfl
theorem kit_dict_list:PySem.W.kitOne K (.type "dict") (.type "list")=some false:=by kernel_rfl
theorem kit_dict_tuple:PySem.W.kitOne K (.type "dict") (.type "tuple")=some false:=by kernel_rfl
theorem kit_NoneType_int:PySem.W.kitOne K (.type "NoneType") (.type "int")=some false:=by kernel_rfl
theorem kit_NoneType_bool:PySem.W.kitOne K (.type "NoneType") (.type "bool")=some false:=by kernel_rfl
theorem kit_NoneType_str:PySem.W.kitOne K (.type "NoneType") (.type "str")=some false:=by kernel_rfl
theorem kit_NoneType_list:PySem.W.kitOne K (.type "NoneType") (.type "list")=some false:=by kernel_rfl
theorem kit_NoneType_tuple:PySem.W.kitOne K (.type "NoneType") (.type "tuple")=some false:=by kernel_rfl
end
noncomputable def Ty2 (K:PySem.W.Frag) (H:Hp):V→String→Prop
 | .non,t=>t="NoneType"
 | .bl _,t=>t="bool"
 | .int _,t=>t="int"
 | .str _,t=>t="str"
 | .ref a,t=>(t="list"∧∃ xs,SqL K H a xs)∨(t="tuple"∧∃ xs,SqT K H a xs)∨(t="dict"∧∃ kvs,H a=some (.dK kvs))
 | _,_=>False
noncomputable def rInst (K:PySem.W.Frag):List V→Hp→VK→Prop:=fun xs H Q=>∃ x n t b,xs=[x,.ty n]∧Ty2 K H x t∧PySem.W.kitOne K (.type t) (.type n)=some b∧Q (.bl b) H
theorem call_inst {X:Cx}:CallR X (.builtin "isinstance") (rInst X.K):=by
 intro pins s σ H xs us Q I r h
 obtain ⟨x,n,t,b,rfl,ty,e,q⟩:=h
 obtain ⟨u,w',rfl,rx,ry⟩:=vals2 r
 obtain rfl:w'=Value.type n:=ry
 have fin:∀ tk,EP X pins σ Q (.bool b) { s with toks:=tk }:=fun tk=>⟨.bl b,H,I.tok _,rfl,q⟩
 cases x with
 | non=>cases (show t=_ from ty); cases (show u=Value.none from rx); exact PySem.W.kia_one PySem.W.kitx_none I.kIn True.intro e (fun z=>nomatch z) fin
 | bl y=>cases (show t=_ from ty); cases (show u=Value.bool y from rx); exact PySem.W.kia_one PySem.W.kitx_bool I.kIn True.intro e (fun z=>nomatch z) fin
 | int i=>cases (show t=_ from ty); obtain ⟨t,q⟩:=(show ∃ t,u=Value.int i t from rx); cases q; exact PySem.W.kia_one PySem.W.kitx_int I.kIn True.intro e (fun z=>nomatch z) fin
 | str y=>cases (show t=_ from ty); obtain ⟨t,q⟩:=(show ∃ t,u=Value.str y t from rx); cases q; exact PySem.W.kia_one PySem.W.kitx_str I.kIn True.intro e (fun z=>nomatch z) fin
 | ref a =>
   cases (show u=Value.ref a from rx)
   rcases ty with ⟨rfl,xs,hq⟩ | ⟨rfl,xs,hq⟩ | ⟨rfl,kvs,hq⟩
   · obtain ⟨its,_,p,_⟩:=I.list hq
     obtain ⟨o,n',h1,h2,_⟩:=p
     exact PySem.W.kia_one PySem.W.kitx_list I.kIn ⟨o,h1,h2⟩ e (fun z=>nomatch z) fin
   · obtain ⟨its,_,p,_⟩:=I.tuple hq
     obtain ⟨o,h1,h2,_⟩:=p
     exact PySem.W.kia_one PySem.W.kitx_tuple I.kIn ⟨o,h1,h2⟩ e (fun z=>nomatch z) fin
   · obtain ⟨_,_,vs,_,p⟩:=(show ObjOk X.prog X.w H s.heap a (.dK kvs) from I.hok a _ hq)
     obtain ⟨o,es,ep,h1,h2,_⟩:=p
     exact PySem.W.kia_one PySem.W.kitx_dict I.kIn ⟨o,h1,h2.1⟩ e (fun z=>nomatch z) fin
 | _=>exact (show False from ty).elim
noncomputable def isInt:T→Bool
 | .int _=>true
 | .bl _=>true
 | _=>false
noncomputable def isBool:T→Bool
 | .bl _=>true
 | _=>false
noncomputable def isStr:T→Bool
 | .str _=>true
 | _=>false
noncomputable def isList:T→Bool
 | .lst _=>true
 | _=>false
noncomputable def isTuple:T→Bool
 | .tup _=>true
 | _=>false
noncomputable def known:T→Bool
 | .dt _ _=>false
 | .df _ _ _=>false
 | .dz _ _ _=>false
 | .kt _=>false
 | .ins _ _ _=>false
 | .pin _ _=>false
 | .ob _=>false
 | .ty _=>false
 | _=>true
noncomputable def InstOk (K:PySem.W.Frag) (n:String) (p:T→Bool):Prop:=∀ H A t v,known t=true→AtR K H A t v→∃ ty,Ty2 K H v ty∧PySem.W.kitOne K (.type ty) (.type n)=some (p t)
theorem inst_int {K:PySem.W.Frag}:InstOk K "int" isInt:=by
 intro H A t v hk h
 cases t with
 | non=>rw [h.non]; exact ⟨_,rfl,kit_NoneType_int K⟩
 | bl b=>rw [h.bl]; exact ⟨_,rfl,kit_bool_int K⟩
 | int b=>rw [h.int]; exact ⟨_,rfl,kit_int_int K⟩
 | str b=>rw [h.str]; exact ⟨_,rfl,kit_str_int K⟩
 | tup l=>obtain ⟨a,vs,rfl,q,_⟩:=h.tup; exact ⟨_,.inr (.inl ⟨rfl,_,q⟩),kit_tuple_int K⟩
 | lst l=>obtain ⟨a,vs,rfl,q,_⟩:=h.lst; exact ⟨_,.inl ⟨rfl,_,q⟩,kit_list_int K⟩
 | dk ks l=>obtain ⟨a,vs,rfl,_,q,_⟩:=h.dk; exact ⟨_,.inr (.inr ⟨rfl,_,q⟩),kit_dict_int K⟩
 | ob _=>simp only [known] at hk; cases hk
 | dt _ _=>simp only [known] at hk; cases hk
 | df _ _ _=>simp only [known] at hk; cases hk
 | dz _ _ _=>simp only [known] at hk; cases hk
 | kt _=>simp only [known] at hk; cases hk
 | ins _ _ _=>simp only [known] at hk; cases hk
 | pin _ _=>simp only [known] at hk; cases hk
 | ty _=>simp only [known] at hk; cases hk
theorem inst_bool {K:PySem.W.Frag}:InstOk K "bool" isBool:=by
 intro H A t v hk h
 cases t with
 | non=>rw [h.non]; exact ⟨_,rfl,kit_NoneType_bool K⟩
 | bl b=>rw [h.bl]; exact ⟨_,rfl,kit_bool_bool K⟩
 | int b=>rw [h.int]; exact ⟨_,rfl,kit_int_bool K⟩
 | str b=>rw [h.str]; exact ⟨_,rfl,kit_str_bool K⟩
 | tup l=>obtain ⟨a,vs,rfl,q,_⟩:=h.tup; exact ⟨_,.inr (.inl ⟨rfl,_,q⟩),kit_tuple_bool K⟩
 | lst l=>obtain ⟨a,vs,rfl,q,_⟩:=h.lst; exact ⟨_,.inl ⟨rfl,_,q⟩,kit_list_bool K⟩
 | dk ks l=>obtain ⟨a,vs,rfl,_,q,_⟩:=h.dk; exact ⟨_,.inr (.inr ⟨rfl,_,q⟩),kit_dict_bool K⟩
 | ob _=>simp only [known] at hk; cases hk
 | dt _ _=>simp only [known] at hk; cases hk
 | df _ _ _=>simp only [known] at hk; cases hk
 | dz _ _ _=>simp only [known] at hk; cases hk
 | kt _=>simp only [known] at hk; cases hk
 | ins _ _ _=>simp only [known] at hk; cases hk
 | pin _ _=>simp only [known] at hk; cases hk
 | ty _=>simp only [known] at hk; cases hk
theorem inst_str {K:PySem.W.Frag}:InstOk K "str" isStr:=by
 intro H A t v hk h
 cases t with
 | non=>rw [h.non]; exact ⟨_,rfl,kit_NoneType_str K⟩
 | bl b=>rw [h.bl]; exact ⟨_,rfl,kit_bool_str K⟩
 | int b=>rw [h.int]; exact ⟨_,rfl,kit_int_str K⟩
 | str b=>rw [h.str]; exact ⟨_,rfl,kit_str_str K⟩
 | tup l=>obtain ⟨a,vs,rfl,q,_⟩:=h.tup; exact ⟨_,.inr (.inl ⟨rfl,_,q⟩),kit_tuple_str K⟩
 | lst l=>obtain ⟨a,vs,rfl,q,_⟩:=h.lst; exact ⟨_,.inl ⟨rfl,_,q⟩,kit_list_str K⟩
 | dk ks l=>obtain ⟨a,vs,rfl,_,q,_⟩:=h.dk; exact ⟨_,.inr (.inr ⟨rfl,_,q⟩),kit_dict_str K⟩
 | ob _=>simp only [known] at hk; cases hk
 | dt _ _=>simp only [known] at hk; cases hk
 | df _ _ _=>simp only [known] at hk; cases hk
 | dz _ _ _=>simp only [known] at hk; cases hk
 | kt _=>simp only [known] at hk; cases hk
 | ins _ _ _=>simp only [known] at hk; cases hk
 | pin _ _=>simp only [known] at hk; cases hk
 | ty _=>simp only [known] at hk; cases hk
theorem inst_list {K:PySem.W.Frag}:InstOk K "list" isList:=by
 intro H A t v hk h
 cases t with
 | non=>rw [h.non]; exact ⟨_,rfl,kit_NoneType_list K⟩
 | bl b=>rw [h.bl]; exact ⟨_,rfl,kit_bool_list K⟩
 | int b=>rw [h.int]; exact ⟨_,rfl,kit_int_list K⟩
 | str b=>rw [h.str]; exact ⟨_,rfl,kit_str_list K⟩
 | tup l=>obtain ⟨a,vs,rfl,q,_⟩:=h.tup; exact ⟨_,.inr (.inl ⟨rfl,_,q⟩),kit_tuple_list K⟩
 | lst l=>obtain ⟨a,vs,rfl,q,_⟩:=h.lst; exact ⟨_,.inl ⟨rfl,_,q⟩,kit_list_list K⟩
 | dk ks l=>obtain ⟨a,vs,rfl,_,q,_⟩:=h.dk; exact ⟨_,.inr (.inr ⟨rfl,_,q⟩),kit_dict_list K⟩
 | ob _=>simp only [known] at hk; cases hk
 | dt _ _=>simp only [known] at hk; cases hk
 | df _ _ _=>simp only [known] at hk; cases hk
 | dz _ _ _=>simp only [known] at hk; cases hk
 | kt _=>simp only [known] at hk; cases hk
 | ins _ _ _=>simp only [known] at hk; cases hk
 | pin _ _=>simp only [known] at hk; cases hk
 | ty _=>simp only [known] at hk; cases hk
theorem inst_tuple {K:PySem.W.Frag}:InstOk K "tuple" isTuple:=by
 intro H A t v hk h
 cases t with
 | non=>rw [h.non]; exact ⟨_,rfl,kit_NoneType_tuple K⟩
 | bl b=>rw [h.bl]; exact ⟨_,rfl,kit_bool_tuple K⟩
 | int b=>rw [h.int]; exact ⟨_,rfl,kit_int_tuple K⟩
 | str b=>rw [h.str]; exact ⟨_,rfl,kit_str_tuple K⟩
 | tup l=>obtain ⟨a,vs,rfl,q,_⟩:=h.tup; exact ⟨_,.inr (.inl ⟨rfl,_,q⟩),kit_tuple_tuple K⟩
 | lst l=>obtain ⟨a,vs,rfl,q,_⟩:=h.lst; exact ⟨_,.inl ⟨rfl,_,q⟩,kit_list_tuple K⟩
 | dk ks l=>obtain ⟨a,vs,rfl,_,q,_⟩:=h.dk; exact ⟨_,.inr (.inr ⟨rfl,_,q⟩),kit_dict_tuple K⟩
 | ob _=>simp only [known] at hk; cases hk
 | dt _ _=>simp only [known] at hk; cases hk
 | df _ _ _=>simp only [known] at hk; cases hk
 | dz _ _ _=>simp only [known] at hk; cases hk
 | kt _=>simp only [known] at hk; cases hk
 | ins _ _ _=>simp only [known] at hk; cases hk
 | pin _ _=>simp only [known] at hk; cases hk
 | ty _=>simp only [known] at hk; cases hk
noncomputable def fInst (f:FE) (p:T→Bool):FP:=fun ρ Q=>f ρ fun t=>known t=true∧Q (.vw (.bl (p t)))
section
variable {X:Cx} {Z:Zc} {e a b c:Expr} {es:List Expr} {pos p p2:Pos} {fa fb fcc:FE}
theorem b_isinstance:bootBuiltins "isinstance" = some (.builtin "isinstance"):=by decide +kernel
theorem vp_inst {n:String} {y:Str} {q:T→Bool} (hq:InstOk X.K n q) (hg:Gl X "isinstance") (hm:X.mg "isinstance" = none) (hgy:Gl X y) (hmy:X.mg y=none) (hby:bootBuiltins y=some (.type n)) (ha:VR X Z e fa)
  (hny:y≠"__name__":=by decide) (hdy:(y == ("__debug__" : Str))=false:=by decide)
  (hs:starEach [e,.Name y p2] X.env=(false,eval e X.env) :: starEach [.Name y p2] X.env:=by rfl) (hs2:starEach [.Name y p2] X.env=(false,eval (.Name y p2) X.env) :: starEach [] X.env:=by rfl) (hpl:(backTo pos (starEach [.Name y p2] X.env)).any (·.1)=false:=by rfl) :
  VP X Z (.Call (.Name "isinstance" p) [e,.Name y p2] [] pos) (fInst fa q):=.mk fun tm =>
 PE.weak (pe_callB call_inst hg hm b_isinstance (pa_cons (ha tm) (pa_cons (pe_bltn (v:=.ty n) hgy hmy hby rfl hny hdy) pa_nil hs2) hs) (by decide) (by decide) hs hpl) fun σ H Q ⟨ρ,O,q',I,hf,k⟩=>⟨ρ,O,_,I,hf,fun t ht v H1 s1 a1=>by
  obtain ⟨ty,h1,h2⟩:=hq H1 _ t v ht.1 a1
  exact ⟨v,n,ty,_,rfl,h1,h2,k _ ht.2 _ H1 s1 ⟨I.same s1,at_bl⟩⟩⟩
noncomputable def flatT:T→Bool
 | .non=>true
 | .bl _=>true
 | .int _=>true
 | .str _=>true
 | _=>false
noncomputable def flats:List T→Bool
 | []=>true
 | t :: ts=>flatT t && flats ts
noncomputable def inT (x:T):List T→Bool
 | []=>false
 | t :: ts=>eqT t x || inT x ts
theorem flat_vals {K:PySem.W.Frag} {H:Hp} {A:List Addr}:∀ {ts:List T} {vs:List V} {x:T} {v:V},flats ts=true→flatT x=true→AtL K H A ts vs→At K H A x v→vs.all flatV=true∧flatV v=true∧inV v vs=inT x ts
 | [],vs,x,v,_,fx,h,hx=>by
   simp only [AtL] at h; subst h
   refine ⟨rfl,?_,rfl⟩
   cases x <;> simp only [At] at hx <;> first | (subst hx; rfl) | (simp only [flatT] at fx; cases fx)
 | t :: ts,vs,x,v,f,fx,h,hx=>by
   simp only [AtL] at h
   obtain ⟨u,r,rfl,h1,h2⟩:=h
   simp only [flats,Bool.and_eq_true] at f
   obtain ⟨i1,i2,i3⟩:=flat_vals f.2 fx h2 hx
   have ft:flatV u=true:=by
    cases t <;> simp only [At] at h1 <;> first | (subst h1; rfl) | (have:=f.1; simp only [flatT] at this; cases this)
   have e:eqV u v=eqT t x:=by
    cases t <;> simp only [At] at h1 <;> first
     | (have:=f.1; simp only [flatT] at this; cases this; done)
     | (subst h1
        cases x <;> simp only [At] at hx <;> first
         | (simp only [flatT] at fx; cases fx; done)
         | (subst hx; simp [eqV,eqT]; done))
   refine ⟨by simp [ft,i1],i2,?_⟩
   simp only [inT,inV,List.any_cons]
   rw [e]
   congr 1
noncomputable def rInU (K:PySem.W.Frag) (neg:Bool):R2:=fun x y H Q=>rIn K neg x y H Q∨∃ i j,x = .str i∧y = .str j∧Q (.bl (if neg then !(!(Builtin.Str.occurrences j i 0 j.length 1).isEmpty) else !(Builtin.Str.occurrences j i 0 j.length 1).isEmpty)) H
theorem op_inU:OpR X (compareOp .In) (rInU X.K false):=by
 intro pins s σ H x y v u Q I rx ry h
 rcases h with h | ⟨i,j,h1,h2,h⟩
 · exact op_in_seq pins s σ H x y v u Q I rx ry h
 · exact op_in_str pins s σ H x y v u Q I rx ry ⟨i,j,h1,h2,by simpa using h⟩
noncomputable def strIn (i j:Str):Bool:=!(Builtin.Str.occurrences j i 0 j.length 1).isEmpty
noncomputable def pIn (x y:T) (q:Rt→Prop):Prop:=match y with
 | .lst ts=>flatT x=true∧flats ts=true∧q (.vw (.bl (inT x ts)))
 | .tup ts=>flatT x=true∧flats ts=true∧q (.vw (.bl (inT x ts)))
 | .str j=>∃ i,x = .str i∧q (.vw (.bl (strIn i j)))
 | _=>False
theorem opT_in {K:PySem.W.Frag}:OpT K (rInU K false) pIn:=by
 intro Z tm O ρ σ H x y v w q Q I h1 h2 h k
 have x1:flatT x=true→At K H (av Z O) x v:=fun f=>by
  rcases h1 with h | ⟨a,rfl,h⟩
  · exact h
  · cases x <;> first | exact h.elim | (simp only [flatT] at f; cases f)
 unfold pIn at h
 split at h
 · obtain ⟨f1,f2,h⟩:=h
   obtain ⟨a,vs,rfl,q1,q2⟩:=h2.lst
   obtain ⟨i1,i2,i3⟩:=flat_vals f2 f1 q2 (x1 f1)
   exact .inl ⟨a,vs,rfl,.inl q1,i2,i1,k _ h _ H (Same.refl H) ⟨I,by rw [if_neg Bool.false_ne_true,i3]; exact at_bl⟩⟩
 · obtain ⟨f1,f2,h⟩:=h
   obtain ⟨a,vs,rfl,q1,q2⟩:=h2.tup
   obtain ⟨i1,i2,i3⟩:=flat_vals f2 f1 q2 (x1 f1)
   exact .inl ⟨a,vs,rfl,.inr q1,i2,i1,k _ h _ H (Same.refl H) ⟨I,by rw [if_neg Bool.false_ne_true,i3]; exact at_bl⟩⟩
 · obtain ⟨i,rfl,h⟩:=h
   exact .inr ⟨i,_,h1.str,h2.str,k _ h _ H (Same.refl H) ⟨I,by rw [if_neg Bool.false_ne_true]; exact at_bl⟩⟩
 · exact h.elim
theorem vc_in (ha:VR X Z a fa) (hb:VR X Z b fb) (hm:behindInMarks .In b=false:=by rfl):VC X Z (.Compare a [.In] [b] pos) (fTst (f2 fa fb pIn)):=vc_cmp op_inU opT_in ha hb hm
noncomputable def isNon:T→Bool
 | .non=>true
 | _=>false
noncomputable def pIs (x y:T) (q:Rt→Prop):Prop:=match y with
 | .non=>q (.vw (.bl (isNon x)))
 | _=>False
noncomputable def pIsNot (x y:T) (q:Rt→Prop):Prop:=match y with
 | .non=>q (.vw (.bl (!isNon x)))
 | _=>False
theorem non_iff {K:PySem.W.Frag} {H:Hp} {A:List Addr} {t:T} {v:V} (h:AtR K H A t v):decide (v = .non)=isNon t:=by
 cases t with
 | non=>rw [h.non]; rfl
 | bl b=>rw [h.bl]; rfl
 | int b=>rw [h.int]; rfl
 | str b=>rw [h.str]; rfl
 | ob b=>rw [h.ob]; rfl
 | ty b =>
   have:v = .ty b:=h.elim (fun q=>by simpa only [At] using q) fun ⟨_,_,q⟩=>q.elim
   rw [this]; rfl
 | tup l=>obtain ⟨a,vs,rfl,_⟩:=h.tup; rfl
 | lst l=>obtain ⟨a,vs,rfl,_⟩:=h.lst; rfl
 | dk ks l=>obtain ⟨a,vs,rfl,_⟩:=h.dk; rfl
 | dt ks l=>obtain ⟨a,vs,rfl,_⟩:=h.dt; rfl
 | df o ks l=>obtain ⟨a,vs,rfl,_⟩:=h.df; rfl
 | dz o ks l=>obtain ⟨a,vs,rfl,_⟩:=h.dz; rfl
 | kt k=>obtain ⟨a,rfl,_⟩:=h.kt; rfl
 | ins C ns l=>obtain ⟨a,dx,vs,rfl,_⟩:=h.ins; rfl
 | pin a t =>
   have e:v = .ref a:=h.elim (fun q=>by simp only [At] at q; exact q.1) fun ⟨_,_,q⟩=>q.elim
   rw [e]; rfl
theorem opT_is {K:PySem.W.Frag}:OpT K (fun x y H Q=>y = .non∧Q (.bl (decide (x = .non))) H) pIs:=by
 intro Z tm O ρ σ H x y v w q Q I h1 h2 h k
 unfold pIs at h
 split at h
 · exact ⟨h2.non,k _ h _ H (Same.refl H) ⟨I,by rw [non_iff h1]; exact at_bl⟩⟩
 · exact h.elim
theorem opT_isnot {K:PySem.W.Frag}:OpT K (fun x y H Q=>y = .non∧Q (.bl (!decide (x = .non))) H) pIsNot:=by
 intro Z tm O ρ σ H x y v w q Q I h1 h2 h k
 unfold pIsNot at h
 split at h
 · exact ⟨h2.non,k _ h _ H (Same.refl H) ⟨I,by rw [non_iff h1]; exact at_bl⟩⟩
 · exact h.elim
theorem vp_is (ha:VR X Z a fa) (hb:VR X Z b fb):VP X Z (.Compare a [.Is] [b] pos) (f2 fa fb pIs):=vp_cmp op_isN opT_is ha hb (nomark _)
theorem vc_is (ha:VR X Z a fa) (hb:VR X Z b fb):VC X Z (.Compare a [.Is] [b] pos) (fTst (f2 fa fb pIs)):=vc_cmp op_isN opT_is ha hb (nomark _)
theorem vc_isnot (ha:VR X Z a fa) (hb:VR X Z b fb):VC X Z (.Compare a [.IsNot] [b] pos) (fTst (f2 fa fb pIsNot)):=vc_cmp op_notN opT_isnot ha hb (nomark _)
noncomputable def enumT (ts:List T):List T:=ts.mapIdx fun i t=>.tup [.int (i:Int),t]
noncomputable def fEnum (f:FE):FI:=fun ρ Q=>f ρ fun t=>match t with
 | .lst ts=>Q (enumT ts)
 | _=>False
theorem wk_enum {K:PySem.W.Frag} {a:Addr} {ts:List T}:Wk K (Ite K a) [(.lst ts,.ref a)] (enumT ts):=fun H A hA h i=>by
 have h:=h _ List.mem_cons_self
 simp only [At] at h
 obtain ⟨b,vs,e,l,q⟩:=h
 cases e
 have hl:=q.length
 have hle:(enumT ts).length=ts.length:=by unfold enumT; rw [List.length_mapIdx]
 rw [hle]
 refine ⟨fun hi=>⟨vs,vs[i]'(by omega),l.sq,by simp⟩,fun hi=>⟨vs,l.sq,by omega⟩,fun t ht x H' y=>?_⟩
 obtain ⟨p,u,hp,rfl,hu,rfl⟩:=y
 unfold enumT at ht
 rw [List.getElem?_mapIdx] at ht
 cases e:ts[i]? with
 | none=>rw [e] at ht; cases ht
 | some t' =>
   rw [e] at ht
   cases ht
   obtain ⟨v,e1,e2⟩:=q.get e
   have:=hu vs l.sq
   rw [e1] at this
   cases this
   exact ⟨same_upd hp,at_tup (SqT.of upd_same) (AtL.cons at_int (AtL.cons (e2.same (same_upd hp)) AtL.nil))⟩
theorem vi_enum {elts:List Expr} {x1} {tp:Pos} (hg:Gl X "enumerate") (hm:X.mg "enumerate" = none) (ha:VE X Z a fa) (hs:starEach [a] X.env=[(false,eval a X.env)]:=by rfl) :
  VI X Z (.Tuple elts x1 tp) (.Call (.Name "enumerate" p) [a] [] pos) (fEnum fa):=.mk fun tm=>PI.weak (pi_enum hg hm (pa_cons (ha tm) pa_nil hs) hs) fun σ H R ⟨ρ,O,q,I,hf,k⟩=>⟨ρ,O,_,I,hf,fun t ht v H' s a=>by
 split at ht
 · have a0:=a
   simp only [At] at a
   obtain ⟨p,vs,rfl,l,_⟩:=a
   exact ⟨p,rfl,⟨vs,l.sq⟩,k _ ht _ H' _ s (fun p hp=>by rw [List.mem_singleton.mp hp]; exact a0) wk_enum⟩
 · exact ht.elim⟩
noncomputable def fRep (f:FP) (fb:FE):FP:=fun ρ Q=>f ρ fun r=>match r with
 | .fr (.lst ts)=>fb ρ fun y=>match y with
   | .int k=>-(2 ^ 63)≤k∧k < 2 ^ 63∧ts.length * k.toNat≤sizeLine∧Q (.fr (.lst (List.replicate k.toNat ts).flatten))
   | _=>False
 | _=>False
theorem AtL.rep {K:PySem.W.Frag} {H:Hp} {A:List Addr} {ts:List T} {vs:List V} (h:AtL K H A ts vs):∀ k:Nat,AtL K H A (List.replicate k ts).flatten (List.replicate k vs).flatten
 | 0=>AtL.nil
 | k+1=>by rw [List.replicate_succ,List.replicate_succ,List.flatten_cons,List.flatten_cons]; exact h.append (AtL.rep h k)
theorem vp_rep {f:FP} (ha:VP X Z a f) (hb:VR X Z b fb):VP X Z (.BinOp a .Mult b pos) (fRep f fb):=.mk fun tm=>PE.weak (pe_op op_rep (ha tm) (hb tm)) fun σ H Q ⟨ρ,O,q,I,hf,k⟩=>⟨ρ,O,_,I,hf,fun r hr v H1 s1 z=>by
 split at hr
 · obtain ⟨l,rfl,J,⟨xs,e,q1⟩,_⟩:=z
   refine ⟨ρ,O,_,I.same s1,hr,fun y hy w H2 s2 a2=>?_⟩
   split at hy
   · obtain ⟨h1,h2,h3,hy⟩:=hy
     have q2:AtL X.K H2 (av Z O) _ xs:=(q1.same s2).fewer sub_av_ex
     exact ⟨l,_,xs,rfl,a2.int,s2 _ _ e,h1,h2,by rw [q2.length]; exact h3,fun p hp=>k _ hy _ _ ((s1.trans s2).trans (same_upd hp)) (((I.same s1).same s2).newL hp (q2.rep _))⟩
   · exact hy.elim
 · exact hr.elim⟩
end
end VT
namespace VT
open PySem PySem.Spec PyProof.Rows L2
structure Df (K:PySem.W.Frag) (mg:Str→Option Value) (x:Str) (st:Stmt) (ps:List Str) (f:Addr) (fd:FuncData):Prop where
 F:Fun K x x st f fd
 m:mg x=some (.ref f)
 b:Binds K fd ps []
noncomputable def Cal (P:Program) (w:World) (K:PySem.W.Frag) (mg:Str→Option Value) (base:Heap) (x:Str) (ps:List Str) (k:Nat) (sp:Sp):Prop :=
 ∃ f fd,mg x=some (.ref f)∧PySem.W.keepIn K (.ref f)=true∧Binds K fd ps []∧FnOk P w K mg base CX0 k f fd ps sp
theorem Df.cal {P:Program} {w:World} {K:PySem.W.Frag} {mg:Str→Option Value} {base:Heap} {x:Str} {st:Stmt} {ps:List Str} {f:Addr} {fd:FuncData} {k:Nat} {sp:Sp} (D:Df K mg x st ps f fd) (F:FnOk P w K mg base CX0 k f fd ps sp):Cal P w K mg base x ps k sp :=
 ⟨f,fd,D.m,D.F.kp,D.b,F⟩
theorem np0 {H:Hp} {Ox:List Addr} {i:Nat}:NotPar ⟨H,[],Ox⟩ i:=fun _ z=>nomatch z
section
variable {P:Program} {w:World} {K:PySem.W.Frag} {mg:Str→Option Value} {base:Heap}
theorem fnP {x qual:Str} {st:Stmt} {f:Addr} {fd:FuncData} {N ps:List Str} {k n:Nat} {G:List T→(Rt→Prop)→Prop} (F:Fun K x qual st f fd) (S:FnScope N ps (defScope st)) (hn:n=ps.length)
  (hbody:∀ (cdv:Value) (A:Around) (outer:List Env) (s:Shared) (H:Hp) (E:XK) (Ox:List Addr),Room k (A.deeper (envOfC qual (defScope st) s.heap.objs.size f cdv))→∀ ts q,G ts q →
    ∃ g,VSs (cxOf CX0 P w K mg base N qual (defScope st) f cdv A outer s H E).nox ⟨H,[],Ox⟩ (defBody st) g∧(ts.length=n→g { nx:=fun _=>q (.vw .non),rt:=fun _ r=>q r } (ts.map (fun t=>some (t,false)) ++ List.replicate (N.length - ts.length) none))) :
  FnOk P w K mg base CX0 (k+1) f fd ps (spP K n G):=by
 have hp:∀ n (as:List Addr) k,pz (List.replicate n false) as k=[]:=by
  intro n
  induction n with
  | zero=>intro as k; rfl
  | succ n ih=>intro as k; exact ih as (k+1)
 have hfi:∀ n (ρ:En),fins (List.replicate n false) ρ=[]:=by
  intro n
  induction n with
  | zero=>intro ρ; rfl
  | succ n ih=>intro ρ; exact ih ρ.tail
 have he:∀ n (ts:List T),ts.length=n→en0 (List.replicate n false) ts=ts.map fun t=>some (t,false):=by
  intro n
  induction n with
  | zero=>intro ts e; cases ts <;> simp_all [en0]
  | succ n ih =>
    intro ts e
    cases ts with
    | nil=>simp at e
    | cons t ts=>rw [List.replicate_succ,en0,ih ts (by simpa using e)]; rfl
 refine fnV F S (by rw [List.length_replicate]; exact hn) fun cdv A outer s H E as Ox hr ts q hl hG=>?_
 rw [List.length_replicate] at hl
 obtain ⟨g,h1,h2⟩:=hbody cdv A outer s H E Ox hr ts (q []) hG
 refine ⟨g,by rw [hp]; exact h1,?_⟩
 rw [he n ts hl]
 simp only [hfi]
 exact h2 hl
end
theorem Room.u101 {k:Nat} {A:Around} (r:Room k A):A.units+101 < cLine:=by have:=r.un; omega
theorem b_list:bootBuiltins "list" = some (.type "list"):=by decide +kernel
theorem b_tuple:bootBuiltins "tuple" = some (.type "tuple"):=by decide +kernel
theorem b_min:bootBuiltins "min" = some (.builtin "min"):=by decide +kernel
theorem b_int:bootBuiltins "int" = some (.type "int"):=by decide +kernel
theorem b_bool:bootBuiltins "bool" = some (.type "bool"):=by decide +kernel
theorem b_str:bootBuiltins "str" = some (.type "str"):=by decide +kernel
end VT
namespace VT
open PySem PySem.Spec PyProof.Rows L2
theorem pz_flag:∀ {fs:List Bool} {as:List Addr} {k:Nat},∀ p∈pz fs as k,k≤p.1∧fs[p.1 - k]?=some true
 | [],_,_,p,hp=>nomatch hp
 | false :: fs,as,k,p,hp=>by
   obtain ⟨h1,h2⟩:=pz_flag (fs:=fs) (as:=as) (k:=k+1) p hp
   refine ⟨by omega,?_⟩
   have:p.1 - k=(p.1 - (k+1))+1:=by omega
   rw [this]; simpa using h2
 | true :: fs,a :: as,k,p,hp=>by
   rcases List.mem_cons.mp hp with z | z
   · subst z; exact ⟨Nat.le_refl _,by simp⟩
   · obtain ⟨h1,h2⟩:=pz_flag (fs:=fs) (as:=as) (k:=k+1) p z
     refine ⟨by omega,?_⟩
     have:p.1 - k=(p.1 - (k+1))+1:=by omega
     rw [this]; simpa using h2
 | true :: fs,[],k,p,hp=>by
   obtain ⟨h1,h2⟩:=pz_flag (fs:=fs) (as:=[]) (k:=k+1) p hp
   refine ⟨by omega,?_⟩
   have:p.1 - k=(p.1 - (k+1))+1:=by omega
   rw [this]; simpa using h2
theorem np_pz {H:Hp} {fs:List Bool} {as Ox:List Addr} {i:Nat} (h:fs[i]?≠some true):NotPar ⟨H,pz fs as 0,Ox⟩ i:=fun p hp e=>by
 have:=(pz_flag p hp).2
 rw [Nat.sub_zero,e] at this
 exact h this
theorem rangeT_len (lo:Int) (n:Nat):(rangeT lo n).length=n:=by unfold rangeT; rw [List.length_map,List.length_range]
theorem rangeT_get {lo:Int} {n i:Nat} {t:T} (h:(rangeT lo n)[i]?=some t):i < n∧t = .int (lo+(i:Int)):=by
 unfold rangeT at h
 rw [List.getElem?_map] at h
 cases e:(List.range n)[i]? with
 | none=>rw [e] at h; cases h
 | some j =>
   rw [e] at h
   obtain ⟨h1,h2⟩:=List.getElem?_eq_some_iff.mp e
   rw [List.getElem_range] at h2
   rw [List.length_range] at h1
   subst h2
   cases h
   exact ⟨h1,rfl⟩
theorem loop_range {lo:Int} {n:Nat} {h:FG} {g:FS} {d:VEn} {ρ:En} (Pv:Nat→En→Prop) (h0:Pv 0 ρ) (hs:∀ (i:Nat) ρ',i < n→Pv i ρ'→h (.int (lo+(i:Int))) ρ' fun ρ2=>g { nx:=Pv (i+1),ct:=Pv (i+1),bk:=d.nx,rt:=d.rt } ρ2)
 (hd:∀ ρ',Pv n ρ'→d.nx ρ'):LoopW (rangeT lo n) h g d ρ:=⟨Pv,h0,fun i t ρ' e p=>by obtain ⟨h1,rfl⟩:=rangeT_get e; exact hs i ρ' h1 p,fun ρ' p=>hd ρ' (by rw [rangeT_len] at p; exact p)⟩
theorem loop_map {α:Type} {f:α→T} {xs:List α} {h:FG} {g:FS} {d:VEn} {ρ:En} (Pv:Nat→En→Prop) (h0:Pv 0 ρ) (hs:∀ (i:Nat) x ρ',xs[i]?=some x→Pv i ρ'→h (f x) ρ' fun ρ2=>g { nx:=Pv (i+1),ct:=Pv (i+1),bk:=d.nx,rt:=d.rt } ρ2)
 (hd:∀ ρ',Pv xs.length ρ'→d.nx ρ'):LoopW (xs.map f) h g d ρ:=⟨Pv,h0,fun i t ρ' e p=>by
   rw [List.getElem?_map] at e
   cases q:xs[i]? with
   | none=>rw [q] at e; cases e
   | some x=>rw [q] at e; cases e; exact hs i x ρ' q p,fun ρ' p=>hd ρ' (by rw [List.length_map] at p; exact p)⟩
theorem iteN {c:Bool} {A B:Prop} (hc:c=false) (h:B):if c=true then A else B:=by rw [if_neg (by rw [hc]; exact Bool.false_ne_true)]; exact h
theorem iteD {c A B:Prop} [Decidable c] (h1:c→A) (h2:¬ c→B):if decide c=true then A else B:=by
 by_cases h:c
 · rw [if_pos (decide_eq_true h)]; exact h1 h
 · rw [if_neg (by rw [decide_eq_false h]; exact Bool.false_ne_true)]; exact h2 h
end VT
namespace VT
open PySem PySem.Spec PyProof.Rows L2
section
variable {prog:Program} {w:World} {A:Around} {E:Value→Shared→Prop} {s:Shared}
theorem nextOf_tuple_item {it t:Addr} {i:Nat} {items:Array Value} {x:Value} {Q:Value→Shared→Prop} (hit:s.heap.IsTupleIter it t i) (ht:s.heap.IsTuple t items) (hx:items[i]?=some x)
  (hQ:∀ h',h'.IsTupleIter it t (i+1)→Heap.SameBut it s.heap h'→Q x { s with heap:=h' }):wpAny (model prog w) A (Builtin.SmallTypes.nextOf (.ref it)) Q E s:=by
 obtain ⟨o,ho,hc,hd⟩:=id hit
 obtain ⟨ol,hol,_,nl,hdl⟩:=ht
 unfold Builtin.SmallTypes.nextOf
 refine wpAny_bind (wpAny_callSpecial?_slot (name:=Str.ofString "__next__") hit.typeIs F.slot_tuple_iterator_next
  (wpAny_call_entry F.slot_tuple_iterator_next hit.typeIs F.entry_tuple_iterator_next ?_ (F.args_tuple_iterator_next_1 _)))
 show wpAny _ _ (field (.ref it) 0 >>= _) _ _ s
 refine wpAny_bind (wpAny_field ho hd (x:=.ref t) rfl ?_)
 show wpAny _ _ (if (Value.ref t == Value.none)=true then _ else _) _ _ s
 rw [if_neg (show ¬ ((Value.ref t == Value.none)=true) from Bool.false_ne_true)]
 show wpAny _ _ (field (.ref it) 1 >>= _) _ _ s
 refine wpAny_bind (wpAny_field ho hd (x:=.int i 0) rfl ?_)
 show wpAny _ _ (seqItems? (.ref t) >>= _) _ _ s
 refine wpAny_bind (wpAny_seqItems hol hdl ?_)
 simp only [Int.toNat_natCast,hx]
 refine wpAny_bind (wpAny_setField ho hd (by simp) (wpAny_pure ⟨x,rfl,wpAny_pure (hQ _ ?_ (Heap.SameBut.update ..))⟩))
 exact ⟨_,Heap.get?_update_self _ ho (Obj.isFreed_of_fields (Obj.data_mapFields hd _)),(Obj.cls_mapFields ..).trans hc,by
  rw [Obj.data_mapFields hd]; simp [rawInt]⟩
theorem nextOf_tuple_end {it t:Addr} {i:Nat} {items:Array Value} {Q:Value→Shared→Prop} (hh:A.handled=none) (hit:s.heap.IsTupleIter it t i) (ht:s.heap.IsTuple t items) (hx:items[i]?=none)
  (hE:∀ h' e,Heap.ExtBut it s.heap h'→(∃ o,h'.get? e=some o∧o.cls = .type "StopIteration")→E (.ref e) { s with heap:=h' }):wpAny (model prog w) A (Builtin.SmallTypes.nextOf (.ref it)) Q E s:=by
 obtain ⟨o,ho,hc,hd⟩:=id hit
 obtain ⟨ol,hol,_,nl,hdl⟩:=ht
 unfold Builtin.SmallTypes.nextOf
 refine wpAny_bind (wpAny_callSpecial?_slot (name:=Str.ofString "__next__") hit.typeIs F.slot_tuple_iterator_next
  (wpAny_call_entry F.slot_tuple_iterator_next hit.typeIs F.entry_tuple_iterator_next ?_ (F.args_tuple_iterator_next_1 _)))
 show wpAny _ _ (field (.ref it) 0 >>= _) _ _ s
 refine wpAny_bind (wpAny_field ho hd (x:=.ref t) rfl ?_)
 show wpAny _ _ (if (Value.ref t == Value.none)=true then _ else _) _ _ s
 rw [if_neg (show ¬ ((Value.ref t == Value.none)=true) from Bool.false_ne_true)]
 show wpAny _ _ (field (.ref it) 1 >>= _) _ _ s
 refine wpAny_bind (wpAny_field ho hd (x:=.int i 0) rfl ?_)
 show wpAny _ _ (seqItems? (.ref t) >>= _) _ _ s
 refine wpAny_bind (wpAny_seqItems hol hdl ?_)
 simp only [Int.toNat_natCast,hx]
 refine wpAny_bind (wpAny_rule (wpAny_bind (wpAny_setField ho hd (by simp) ?_)))
 show wpAny _ _ (newExc (.type "StopIteration") [] >>= _) _ _ _
 refine wpAny_bind ?_
 simp only [newExc,newTuple]
 refine wpAny_bind (wpAny_newObj_type ?_ (by size_fits))
 refine wpAny_bind (m:=firstArgMember _ _) (wpAny_of_eq (a:=Value.none) (by first | rfl | (simp only [firstArgMember]; rfl)) ?_)
 refine wpAny_newObj_type ?_ (by size_fits)
 simp only [raiseNew]
 refine wpAny_bind (wpAny_handled ?_)
 first | rw [show A.in1.handled=none from hh] | rw [hh]
 refine wpAny_bind (wpAny_pure (wpAny_throw ?_))
 exact hE _ _ (((Heap.SameBut.update ..).extBut.push _).push _) ⟨_,Heap.get?_push_size _ rfl,rfl⟩
end
structure Part (prog:Program) (w:World) (i:Addr) (fp:List Addr) (n:Nat) (Pv:Nat→Value→Prop) (st:Nat→Heap→Prop):Prop where
 draws:∀ A:Around,A.handled=none→Draws prog w A i fp n Pv st
 mem:i∈fp
 fld:∀ k h,st k h→∃ o vs,h.get? i=some o∧o.data = .fields vs
theorem part_list {prog:Program} {w:World} (it l:Addr) (hne:l≠it) (items:Array Value):Part prog w it [it,l] items.size (fun i v=>items[i]?=some v) (fun i h=>h.IsListIter it l i∧h.IsList l items) :=
 ⟨fun A hh=>Draws.list hh it l hne items,by simp,fun k h st=>let ⟨⟨o,e,_,d⟩,_⟩:=st; ⟨o,_,e,d⟩⟩
theorem part_tuple {prog:Program} {w:World} (it l:Addr) (hne:l≠it) (items:Array Value):Part prog w it [it,l] items.size (fun i v=>items[i]?=some v) (fun i h=>h.IsTupleIter it l i∧h.IsTuple l items) :=
 ⟨fun A hh=>{ live:=fun _ _ st=>let ⟨o,ho,_⟩:=st.1; ⟨o,ho⟩
              frame:=fun _ _ _ st hk=>⟨let ⟨o,ho,r⟩:=st.1; ⟨o,hk it (by simp) o ho,r⟩,let ⟨o,ho,r⟩:=st.2; ⟨o,hk l (by simp) o ho,r⟩⟩
              item:=fun i s Q E hi st hQ=>nextOf_tuple_item st.1 st.2 (x:=items[i]) (by simp [hi]) fun h' hit' hs'=>hQ _ h' s.toks (by simp [hi]) ⟨hit',st.2.extBut hs'.extBut hne⟩ hs'
              done:=fun s Q E st hE=>nextOf_tuple_end hh st.1 st.2 (by simp) hE },by simp,fun k h st=>let ⟨⟨o,e,_,d⟩,_⟩:=st; ⟨o,_,e,d⟩⟩
theorem part_str {prog:Program} {w:World} (it:Addr) (x:Str) (t:Tok):Part prog w it [it] x.cps.size (fun i v=>∃ c u,x.cps[i]?=some c∧v = .str ⟨#[c]⟩ u) (fun i h=>h.IsStrIter it (strIterType x) x t i):=by
 rcases strIter_cases x with z | z
 · rw [z]; exact ⟨fun A hh=>Draws.strAscii hh it x t,by simp,fun k h st=>let ⟨o,e,_,d⟩:=st; ⟨o,_,e,d⟩⟩
 · rw [z]; exact ⟨fun A hh=>Draws.strWide hh it x t,by simp,fun k h st=>let ⟨o,e,_,d⟩:=st; ⟨o,_,e,d⟩⟩
structure Apart (z TI TO i1 i2:Addr) (fp1 fp2:List Addr):Prop where
 TIz:TI≠z
 TOz:TO≠z
 i1z:i1≠z
 i2z:i2≠z
 TITO:TI≠TO
 TIi1:TI≠i1
 TIi2:TI≠i2
 TOi1:TO≠i1
 TOi2:TO≠i2
 i12:i1≠i2
 z1:z∉fp1
 z2:z∉fp2
 O1:TO∉fp1
 O2:TO∉fp2
 x1:i2∉fp1
 x2:i1∉fp2
section
variable {prog:Program} {w:World} {A:Around} {E:Value→Shared→Prop} {s:Shared} {z TI TO i1 i2:Addr} {fp1 fp2:List Addr} {n1 n2:Nat} {P1 P2:Nat→Value→Prop} {S1 S2:Nat→Heap→Prop}
theorem zip_item {k:Nat} {a b:Value} {Q:Value→Shared→Prop} (hh:A.handled=none) (D:Apart z TI TO i1 i2 fp1 fp2) (p1:Part prog w i1 fp1 n1 P1 S1) (p2:Part prog w i2 fp2 n2 P2 S2)
  (hz:IsZip s.heap z TI TO .none) (hTI:IsPair s.heap TI (.ref i1) (.ref i2)) (hTO:IsPair s.heap TO a b) (h1:S1 k s.heap) (h2:S2 k s.heap) (hx:k < n1) (hy:k < n2)
  (hQ:∀ x y h' tk,P1 k x→P2 k y→IsZip h' z TI TO (rawInt s.heap.objs.size)→IsPair h' TO x y→S1 (k+1) h'→S2 (k+1) h'→IsPair h' s.heap.objs.size x y→h'.objs.size=s.heap.objs.size+1 →
    (∀ c o,c≠z→c≠TO→c≠i1→c≠i2→s.heap.get? c=some o→h'.get? c=some o)→Q (.ref s.heap.objs.size) { s with heap:=h',toks:=tk }) :
  wpAny (model prog w) A (Builtin.«zip.__next__» ⟨[.ref z],[]⟩) (fun fin s'=>∃ v,fin = .done (.ret v)∧Q v s') E s:=by
 show wpAny _ _ (field (.ref z) 2 >>= _) _ _ _
 refine wpAny_bind (wpAny_field hz rfl (x:=.bool false) rfl ?_)
 show wpAny _ _ (field (.ref z) 3 >>= _) _ _ _
 refine wpAny_bind (wpAny_field hz rfl (x:=.ref TI) rfl ?_)
 refine wpAny_bind (wpAny_seqItems hTI rfl ?_)
 show wpAny _ _ (Builtin.SmallTypes.ownedTupleIsFree (.ref z) >>= _) _ _ _
 refine wpAny_bind ?_
 unfold Builtin.SmallTypes.ownedTupleIsFree
 refine wpAny_bind (wpAny_field hz rfl (x:=.none) rfl (wpAny_pure ?_))
 simp only [if_true]
 refine wpAny_bind (wpAny_rule ?_)
 refine wpAny_bind (wpAny_field hz rfl (x:=.ref TO) rfl ?_)
 refine wpAny_bind (wpAny_setField_rec hz (by simp) fun h₁ hz₁ hs₁=>?_)
 replace hz₁:IsZip h₁ z TI TO .ellipsis:=hz₁
 refine wpAny_bind ?_
 simp only [List.zipIdx_cons,List.zipIdx_nil,List.forIn_cons,List.forIn_nil]
 have f1:∀ {m h h' c},c∉fp1→S1 m h→Heap.SameBut c h h'→S1 m h':=fun {m h h' c} hc st sb=>(p1.draws A hh).frame m h h' st fun b hb o e=>sb.extBut b o (fun q=>hc (q▸hb)) e
 have f2:∀ {m h h' c},c∉fp2→S2 m h→Heap.SameBut c h h'→S2 m h':=fun {m h h' c} hc st sb=>(p2.draws A hh).frame m h h' st fun b hb o e=>sb.extBut b o (fun q=>hc (q▸hb)) e
 refine wpAny_bind (wpAny_bind (wpAny_onRaise ?_))
 show wpAny _ _ (Builtin.SmallTypes.nextOf (.ref i1) >>= _) _ _ _
 refine wpAny_bind ((p1.draws _ hh).item k _ _ _ hx (f1 D.z1 h1 hs₁) fun x h₂ tk₂ px h1₂ hs₂=>wpAny_pure ?_)
 replace hs₂:Heap.SameBut i1 h₁ h₂:=hs₂
 have hTO₂:IsPair h₂ TO a b:=hs₂.extBut _ _ D.TOi1 (hs₁.extBut _ _ D.TOz hTO)
 refine wpAny_bind (wpAny_seqItems hTO₂ rfl ?_)
 refine wpAny_bind (wpAny_updateSeq_pair hTO₂ fun h₃ hTO₃ hs₃=>?_)
 replace hTO₃:IsPair h₃ TO x b:=hTO₃
 replace hs₃:Heap.SameBut TO h₂ h₃:=hs₃
 refine wpAny_bind (wpAny_letGo (wpAny_pure ?_))
 refine wpAny_bind (wpAny_bind (wpAny_onRaise ?_))
 show wpAny _ _ (Builtin.SmallTypes.nextOf (.ref i2) >>= _) _ _ _
 refine wpAny_bind ((p2.draws _ hh).item k _ _ _ hy (f2 D.O2 (f2 D.x2 (f2 D.z2 h2 hs₁) hs₂) hs₃) fun y h₄ tk₄ py h2₄ hs₄=>wpAny_pure ?_)
 replace hs₄:Heap.SameBut i2 h₃ h₄:=hs₄
 have hTO₄:IsPair h₄ TO x b:=hs₄.extBut _ _ D.TOi2 hTO₃
 refine wpAny_bind (wpAny_seqItems hTO₄ rfl ?_)
 refine wpAny_bind (wpAny_updateSeq_pair hTO₄ fun h₅ hTO₅ hs₅=>?_)
 replace hTO₅:IsPair h₅ TO x y:=hTO₅
 replace hs₅:Heap.SameBut TO h₄ h₅:=hs₅
 refine wpAny_bind (wpAny_letGo (wpAny_pure (wpAny_pure ?_)))
 refine wpAny_bind (wpAny_seqItems hTO₅ rfl ?_)
 refine wpAny_bind (wpAny_newTuple ?_)
 have hsz:h₅.objs.size=s.heap.objs.size:=by rw [hs₅.1,hs₄.1,hs₃.1,hs₂.1,hs₁.1]
 have hz₅:IsZip h₅ z TI TO .ellipsis:=hs₅.extBut _ _ D.TOz.symm (hs₄.extBut _ _ D.i2z.symm (hs₃.extBut _ _ D.TOz.symm (hs₂.extBut _ _ D.i1z.symm hz₁)))
 have hk₅:∀ c o,c≠z→c≠TO→c≠i1→c≠i2→s.heap.get? c=some o→h₅.get? c=some o:=fun c o c1 c2 c3 c4 e =>
  hs₅.extBut _ _ c2 (hs₄.extBut _ _ c4 (hs₃.extBut _ _ c2 (hs₂.extBut _ _ c3 (hs₁.extBut _ _ c1 e))))
 have h1₅:S1 (k+1) h₅:=f1 D.O1 (f1 D.x1 (f1 D.O1 h1₂ hs₃) hs₄) hs₅
 have h2₅:S2 (k+1) h₅:=f2 D.O2 h2₄ hs₅
 have hzlt:z < h₅.objs.size:=Heap.lt_size hz₅
 show wpAny _ _ (Builtin.SmallTypes.ownedTupleHandOut (.ref z) (.ref h₅.objs.size) >>= _) _ _ _
 refine wpAny_bind ?_
 unfold Builtin.SmallTypes.ownedTupleHandOut
 have hz₆:IsZip (h₅.push { cls:=.type "tuple",data:=.seq #[x,y] }) z TI TO .ellipsis:=Heap.get?_push_of_some _ hz₅
 refine wpAny_bind (wpAny_setField_rec hz₆ (by simp) fun h₇ hz₇ hs₇=>?_)
 replace hz₇:IsZip h₇ z TI TO (rawInt h₅.objs.size):=hz₇
 refine wpAny_setField_rec hz₇ (by simp) fun h₈ hz₈ hs₈=>?_
 replace hz₈:IsZip h₈ z TI TO (rawInt h₅.objs.size):=hz₈
 have up:∀ c o,c≠z→h₅.get? c=some o→h₈.get? c=some o:=fun c o c1 e=>hs₈.extBut _ _ c1 (hs₇.extBut _ _ c1 (Heap.get?_push_of_some _ e))
 have hT₈:IsPair h₈ h₅.objs.size x y:=hs₈.extBut _ _ (Nat.ne_of_gt hzlt) (hs₇.extBut _ _ (Nat.ne_of_gt hzlt) (Heap.get?_push_size _ rfl))
 have hz8:h₈.objs.size=h₅.objs.size+1:=by rw [hs₈.1,hs₇.1,Heap.size_push]
 have h1₈:S1 (k+1) h₈:=(p1.draws A hh).frame _ _ _ h1₅ fun b hb o e=>up b o (fun q=>D.z1 (q▸hb)) e
 have h2₈:S2 (k+1) h₈:=(p2.draws A hh).frame _ _ _ h2₅ fun b hb o e=>up b o (fun q=>D.z2 (q▸hb)) e
 rw [hsz] at hz₈ hT₈ hz8
 refine wpAny_pure ⟨_,rfl,?_⟩
 show Q (.ref h₅.objs.size) _
 rw [hsz]
 exact hQ x y h₈ tk₄ px py hz₈ (up _ _ D.TOz hTO₅) h1₈ h2₈ hT₈ hz8 fun c o c1 c2 c3 c4 e=>up c o c1 (hk₅ c o c1 c2 c3 c4 e)
theorem zip_end {k:Nat} {a b:Value} {Q:PySem.Fin→Shared→Prop} (hh:A.handled=none) (D:Apart z TI TO i1 i2 fp1 fp2) (p1:Part prog w i1 fp1 n1 P1 S1) (p2:Part prog w i2 fp2 n2 P2 S2)
  (hz:IsZip s.heap z TI TO .none) (hTI:IsPair s.heap TI (.ref i1) (.ref i2)) (hTO:IsPair s.heap TO a b) (h1:S1 k s.heap) (h2:S2 k s.heap) (hend:k=n1∨(k < n1∧k=n2))
  (hE:∀ h' tk e,(∀ c o,c≠z→c≠TO→c≠i1→c≠i2→s.heap.get? c=some o→h'.get? c=some o)→(∃ o,h'.get? e=some o∧o.cls = .type "StopIteration")→E (.ref e) { s with heap:=h',toks:=tk }) :
  wpAny (model prog w) A (Builtin.«zip.__next__» ⟨[.ref z],[]⟩) Q E s:=by
 have f1:∀ {m h h' c},c∉fp1→S1 m h→Heap.SameBut c h h'→S1 m h':=fun {m h h' c} hc st sb=>(p1.draws A hh).frame m h h' st fun b hb o e=>sb.extBut b o (fun q=>hc (q▸hb)) e
 have f2:∀ {m h h' c},c∉fp2→S2 m h→Heap.SameBut c h h'→S2 m h':=fun {m h h' c} hc st sb=>(p2.draws A hh).frame m h h' st fun b hb o e=>sb.extBut b o (fun q=>hc (q▸hb)) e
 show wpAny _ _ (field (.ref z) 2 >>= _) _ _ _
 refine wpAny_bind (wpAny_field hz rfl (x:=.bool false) rfl ?_)
 show wpAny _ _ (field (.ref z) 3 >>= _) _ _ _
 refine wpAny_bind (wpAny_field hz rfl (x:=.ref TI) rfl ?_)
 refine wpAny_bind (wpAny_seqItems hTI rfl ?_)
 show wpAny _ _ (Builtin.SmallTypes.ownedTupleIsFree (.ref z) >>= _) _ _ _
 refine wpAny_bind ?_
 unfold Builtin.SmallTypes.ownedTupleIsFree
 refine wpAny_bind (wpAny_field hz rfl (x:=.none) rfl (wpAny_pure ?_))
 simp only [if_true]
 refine wpAny_bind (wpAny_rule ?_)
 refine wpAny_bind (wpAny_field hz rfl (x:=.ref TO) rfl ?_)
 refine wpAny_bind (wpAny_setField_rec hz (by simp) fun h₁ hz₁ hs₁=>?_)
 replace hz₁:IsZip h₁ z TI TO .ellipsis:=hz₁
 refine wpAny_bind ?_
 simp only [List.zipIdx_cons,List.zipIdx_nil,List.forIn_cons,List.forIn_nil]
 refine wpAny_bind (wpAny_bind (wpAny_onRaise ?_))
 show wpAny _ _ (Builtin.SmallTypes.nextOf (.ref i1) >>= _) _ _ _
 rcases hend with rfl | ⟨hlt,rfl⟩
 · refine wpAny_bind ((p1.draws _ hh).done _ _ _ (f1 D.z1 h1 hs₁) fun h₂ e hs₂ he=>?_)
   obtain ⟨oe,hoe,hce⟩:=he
   have hz₂:IsZip h₂ z TI TO .ellipsis:=hs₂ _ _ D.i1z.symm hz₁
   have hez:e≠z:=fun x=>by subst x; rw [hz₂] at hoe; cases hoe; simp at hce
   refine wpAny_setField_rec hz₂ (by simp) fun h₃ _ hs₃=>hE h₃ _ e (fun c o c1 _ c3 _ x=>hs₃.extBut _ _ c1 (hs₂ _ _ c3 (hs₁.extBut _ _ c1 x))) ⟨oe,hs₃.extBut _ _ hez hoe,hce⟩
 · refine wpAny_bind ((p1.draws _ hh).item k _ _ _ hlt (f1 D.z1 h1 hs₁) fun x h₂ tk₂ px h1₂ hs₂=>wpAny_pure ?_)
   replace hs₂:Heap.SameBut i1 h₁ h₂:=hs₂
   have hTO₂:IsPair h₂ TO a b:=hs₂.extBut _ _ D.TOi1 (hs₁.extBut _ _ D.TOz hTO)
   refine wpAny_bind (wpAny_seqItems hTO₂ rfl ?_)
   refine wpAny_bind (wpAny_updateSeq_pair hTO₂ fun h₃ hTO₃ hs₃=>?_)
   replace hs₃:Heap.SameBut TO h₂ h₃:=hs₃
   refine wpAny_bind (wpAny_letGo (wpAny_pure ?_))
   refine wpAny_bind (wpAny_bind (wpAny_onRaise ?_))
   show wpAny _ _ (Builtin.SmallTypes.nextOf (.ref i2) >>= _) _ _ _
   refine wpAny_bind ((p2.draws _ hh).done _ _ _ (f2 D.O2 (f2 D.x2 (f2 D.z2 h2 hs₁) hs₂) hs₃) fun h₄ e hs₄ he=>?_)
   obtain ⟨oe,hoe,hce⟩:=he
   have hz₄:IsZip h₄ z TI TO .ellipsis:=hs₄ _ _ D.i2z.symm (hs₃.extBut _ _ D.TOz.symm (hs₂.extBut _ _ D.i1z.symm hz₁))
   have hez:e≠z:=fun x=>by subst x; rw [hz₄] at hoe; cases hoe; simp at hce
   refine wpAny_setField_rec hz₄ (by simp) fun h₅ _ hs₅=>hE h₅ _ e (fun c o c1 c2 c3 c4 x=>hs₅.extBut _ _ c1 (hs₄ _ _ c4 (hs₃.extBut _ _ c2 (hs₂.extBut _ _ c3 (hs₁.extBut _ _ c1 x))))) ⟨oe,hs₅.extBut _ _ hez hoe,hce⟩
theorem pyNext_zip_item {k:Nat} {a b:Value} {Q:Option Value→Shared→Prop} (hh:A.handled=none) (D:Apart z TI TO i1 i2 fp1 fp2) (p1:Part prog w i1 fp1 n1 P1 S1) (p2:Part prog w i2 fp2 n2 P2 S2)
  (hz:IsZip s.heap z TI TO .none) (hTI:IsPair s.heap TI (.ref i1) (.ref i2)) (hTO:IsPair s.heap TO a b) (h1:S1 k s.heap) (h2:S2 k s.heap) (hx:k < n1) (hy:k < n2)
  (hQ:∀ x y h' tk,P1 k x→P2 k y→IsZip h' z TI TO (rawInt s.heap.objs.size)→IsPair h' TO x y→S1 (k+1) h'→S2 (k+1) h'→IsPair h' s.heap.objs.size x y→h'.objs.size=s.heap.objs.size+1 →
    (∀ c o,c≠z→c≠TO→c≠i1→c≠i2→s.heap.get? c=some o→h'.get? c=some o)→Q (some (.ref s.heap.objs.size)) { s with heap:=h',toks:=tk }):wpAny (model prog w) A (pyNext (.ref z)) Q E s:=by
 have hT:s.TypeIs (.ref z) "zip":=⟨_,hz,rfl⟩
 unfold pyNext
 exact wpAny_bind (wpAny_attempt (wpAny_callSpecial?_slot (name:=Str.ofString "__next__") hT F.slot_zip_next
  (wpAny_call_entry F.slot_zip_next hT F.entry_zip_next
    (zip_item hh D p1 p2 hz hTI hTO h1 h2 hx hy fun x y h' tk q1 q2 a1 a2 a3 a4 a5 a6 a7=>wpAny_pure (hQ x y h' tk q1 q2 a1 a2 a3 a4 a5 a6 a7)) (F.args_zip_next_1 _))))
theorem pyNext_zip_end {k:Nat} {a b:Value} {Q:Option Value→Shared→Prop} (hh:A.handled=none) (D:Apart z TI TO i1 i2 fp1 fp2) (p1:Part prog w i1 fp1 n1 P1 S1) (p2:Part prog w i2 fp2 n2 P2 S2)
  (hz:IsZip s.heap z TI TO .none) (hTI:IsPair s.heap TI (.ref i1) (.ref i2)) (hTO:IsPair s.heap TO a b) (h1:S1 k s.heap) (h2:S2 k s.heap) (hend:k=n1∨(k < n1∧k=n2))
  (hQ:∀ h' tk,(∀ c o,c≠z→c≠TO→c≠i1→c≠i2→s.heap.get? c=some o→h'.get? c=some o)→Q none { s with heap:=h',toks:=tk }):wpAny (model prog w) A (pyNext (.ref z)) Q E s:=by
 have hT:s.TypeIs (.ref z) "zip":=⟨_,hz,rfl⟩
 unfold pyNext
 refine wpAny_bind (wpAny_attempt (wpAny_callSpecial?_slot (name:=Str.ofString "__next__") hT F.slot_zip_next
  (wpAny_call_entry F.slot_zip_next hT F.entry_zip_next (zip_end hh D p1 p2 hz hTI hTO h1 h2 hend fun h' tk e hk he=>?_) (F.args_zip_next_1 _))))
 obtain ⟨o,ho,hc⟩:=he
 refine wpAny_bind (wpAny_isInstance (T:="StopIteration") (b:=true) ⟨o,ho,hc⟩ isSubtype_stop ?_)
 exact wpAny_pure (hQ _ _ hk)
end
end VT
set_option exponentiation.threshold 4000
namespace VT
open PySem PySem.Spec PyProof.Rows L2
section
variable {X:Cx}
end
section
variable {X:Cx} {Z:Zc} {a b:Expr} {fa fb:FE} {pos:Pos}
end
end VT
namespace VT
open PySem PySem.Spec PyProof.Rows L2
noncomputable def IterOf (v:Value) (o:Obj) (c:Heap→Prop):Prop:=∀ (prog:Program) (w:World) (A:Around) (E:Value→Shared→Prop) (s:Shared) (Q:Value→Shared→Prop),c s.heap →
 Q (.ref s.heap.objs.size) { s with heap:=s.heap.push o }→wpAny (model prog w) A (pyIter v) Q E s
theorem iterOf_list (l:Addr) (items:Array Value):IterOf (.ref l) { cls:=.type "list_iterator",data:=.fields #[.ref l,.int 0 0] } (fun h=>h.IsList l items):=fun _ _ _ _ _ _ h q=>wpAny_pyIter_list h q
theorem iterOf_tuple (l:Addr) (items:Array Value):IterOf (.ref l) { cls:=.type "tuple_iterator",data:=.fields #[.ref l,.int 0 0] } (fun h=>h.IsTuple l items):=fun _ _ _ _ _ _ h q=>wpAny_pyIter_tuple h q
theorem iterOf_str (x:Str) (t:Tok):IterOf (.str x t) { cls:=.type (strIterType x),data:=.fields #[.str x t,.int 0 0] } (fun _=>True):=fun _ _ _ _ _ _ _ q=>wpAny_pyIter_strU q
noncomputable abbrev zH3 (h:Heap) (o1 o2:Obj):Heap:=((h.push o1).push o2).push { cls:=.type "tuple",data:=.seq #[.ref h.objs.size,.ref (h.push o1).objs.size] }
noncomputable abbrev zH4 (h:Heap) (o1 o2:Obj):Heap:=(zH3 h o1 o2).push { cls:=.type "tuple",data:=.seq #[.none,.none] }
noncomputable abbrev zH5 (h:Heap) (o1 o2:Obj):Heap:=(zH4 h o1 o2).push { cls:=.type "zip",data:=.fields #[.none,.bool false,.bool false,.ref ((h.push o1).push o2).objs.size,.ref (zH3 h o1 o2).objs.size] }
theorem meets_zipG {v1 v2:Value} {o1 o2:Obj} {c1 c2:Heap→Prop} (i1:IterOf v1 o1 c1) (i2:IterOf v2 o2 c2) (hp2:∀ h o,c2 h→c2 (h.push o)) :
  Meets (Builtin.«zip.__new__» ⟨[.type "zip",v1,v2],[]⟩) (fun _ R s=>c1 s.heap∧c2 s.heap ∧
   R (.ok (.ret (.ref (zH4 s.heap o1 o2).objs.size))) { s with heap:=zH5 s.heap o1 o2 }) :=
 .of_wp fun prog w A R s h=>by
  obtain ⟨hp,g,d,tk,os⟩:=s; obtain ⟨hc1,hc2,h⟩:=h
  have hsub:=sub_zip
  have hC2:=hp2 _ o1 hc2
  have I1:∀ (A:Around) (E:Value→Shared→Prop) (Q:Value→Shared→Prop),Q (.ref hp.objs.size) ⟨hp.push o1,g,d,tk,os⟩→wpAny (model prog w) A (pyIter v1) Q E ⟨hp,g,d,tk,os⟩:=fun A E Q q=>i1 prog w A E _ Q hc1 q
  have I2:∀ (A:Around) (E:Value→Shared→Prop) (Q:Value→Shared→Prop),Q (.ref (hp.push o1).objs.size) ⟨(hp.push o1).push o2,g,d,tk,os⟩→wpAny (model prog w) A (pyIter v2) Q E ⟨hp.push o1,g,d,tk,os⟩:=fun A E Q q=>i2 prog w A E _ Q hC2 q
  wp_walk using I1,I2
  exact ⟨_,rfl,h⟩
section
variable {prog:Program} {w:World} {A:Around} {E:Value→Shared→Prop} {s:Shared}
theorem call_zipG {v1 v2:Value} {o1 o2:Obj} {c1 c2:Heap→Prop} {Q:Value→Shared→Prop} (i1:IterOf v1 o1 c1) (i2:IterOf v2 o2 c2) (hp2:∀ h o,c2 h→c2 (h.push o)) (h1:c1 s.heap) (h2:c2 s.heap) (hf1:o1.isFreed=false) (hf2:o2.isFreed=false)
  (h:∀ h',IsZip h' (s.heap.objs.size+4) (s.heap.objs.size+2) (s.heap.objs.size+3) .none→IsPair h' (s.heap.objs.size+2) (.ref s.heap.objs.size) (.ref (s.heap.objs.size+1)) →
    IsPair h' (s.heap.objs.size+3) .none .none→h'.get? s.heap.objs.size=some o1→h'.get? (s.heap.objs.size+1)=some o2→h'.objs.size=s.heap.objs.size+5 →
    (∀ c o,s.heap.get? c=some o→h'.get? c=some o)→Q (.ref (s.heap.objs.size+4)) { s with heap:=h' }) :
  wpAny (model prog w) A (call (.type "zip") [v1,v2]) Q E s:=by
 refine callType_new F.called_zip (by decide) (F.typeCall_zip_2 _ _) (F.newCall_zip_2 _ _) (fun obj=>F.args_object_init_3 obj _ _) F.entry_zip_new
  (meets_zipG i1 i2 hp2) ⟨h1,h2,?_⟩
 have z1:(s.heap.push o1).objs.size=s.heap.objs.size+1:=Heap.size_push ..
 have z2:((s.heap.push o1).push o2).objs.size=s.heap.objs.size+2:=by rw [Heap.size_push,z1]
 have z3:(zH3 s.heap o1 o2).objs.size=s.heap.objs.size+3:=by rw [Heap.size_push,z2]
 have z4:(zH4 s.heap o1 o2).objs.size=s.heap.objs.size+4:=by rw [Heap.size_push,z3]
 have z5:(zH5 s.heap o1 o2).objs.size=s.heap.objs.size+5:=by rw [Heap.size_push,z4]
 have g5:(zH5 s.heap o1 o2).get? (zH4 s.heap o1 o2).objs.size=some _:=Heap.get?_push_size _ rfl
 have g4:(zH5 s.heap o1 o2).get? (zH3 s.heap o1 o2).objs.size=some _:=Heap.get?_push_of_some _ (Heap.get?_push_size _ rfl)
 have g3:(zH5 s.heap o1 o2).get? ((s.heap.push o1).push o2).objs.size=some _:=Heap.get?_push_of_some _ (Heap.get?_push_of_some _ (Heap.get?_push_size _ rfl))
 have g2:(zH5 s.heap o1 o2).get? (s.heap.push o1).objs.size=some _:=Heap.get?_push_of_some _ (Heap.get?_push_of_some _ (Heap.get?_push_of_some _ (Heap.get?_push_size _ hf2)))
 have g1:(zH5 s.heap o1 o2).get? s.heap.objs.size=some _:=Heap.get?_push_of_some _ (Heap.get?_push_of_some _ (Heap.get?_push_of_some _ (Heap.get?_push_of_some _ (Heap.get?_push_size _ hf1))))
 show _∧_
 rw [z2,z3,z4] at g5
 rw [z1,z2] at g3
 rw [z3] at g4
 rw [z1] at g2
 rw [z4]
 exact ⟨⟨_,g5,rfl⟩,h _ g5 g3 g4 g1 g2 z5 fun c o x =>
  Heap.get?_push_of_some _ (Heap.get?_push_of_some _ (Heap.get?_push_of_some _ (Heap.get?_push_of_some _ (Heap.get?_push_of_some _ x))))⟩
end
structure ZSrc (P:Program) (w:World) (K:PySem.W.Frag) (i:Addr) (fp:List Addr) (sq:Hp→List V→Prop) (it:Nat→Heap→Prop):Prop where
 part:∀ (X:Cx) (pins:List (Addr×Obj)) (σ:St) (H:Hp) (s:Shared),X.prog=P→X.w=w→X.K=K→Inv X pins σ H s→∀ xs,sq H xs →
  ∃ (Pv:Nat→Value→Prop) (S:Nat→Heap→Prop),Part P w i fp xs.length Pv S∧(∀ k v,Pv k v→∃ x,xs[k]?=some x∧RelV x v)∧(∀ k h,S k h→it k h)∧∀ k,it k s.heap→S k s.heap
 keep:∀ k h h',it k h→(∀ o,h.get? i=some o→h'.get? i=some o)→it k h'
 obj:∀ k h,it k h→∃ o,h.get? i=some o∧∀ v,o.data≠.cell v
 inj:∀ (X:Cx) (pins:List (Addr×Obj)) (σ:St) (H:Hp) (s:Shared),X.K=K→Inv X pins σ H s→∀ xs ys,sq H xs→sq H ys→xs=ys
theorem src_list {P:Program} {w:World} {K:PySem.W.Frag} (i l:Addr) (hne:l≠i):ZSrc P w K i [i,l] (fun H xs=>SqL K H l xs) (fun k h=>h.IsListIter i l k) where
 part:=fun X pins σ H s hP hw hK I xs hq=>by
  subst hP hw hK
  obtain ⟨its,rv,p,hz⟩:=I.list hq
  have e:its.toArray.size=xs.length:=by simp [rv.length]
  refine ⟨_,_,e▸part_list i l hne its.toArray,fun k v hv=>?_,fun k h st=>st.1,fun k st=>⟨st,p.isList⟩⟩
  have hv':its[k]?=some v:=by simpa using hv
  have hk:k < xs.length:=by rw [← e]; simp; exact (List.getElem?_eq_some_iff.mp hv').1
  obtain ⟨u,hu,ru⟩:=rv.get (show xs[k]?=some xs[k] by simp)
  rw [hv'] at hu
  cases hu
  exact ⟨_,by simp,ru⟩
 keep:=fun k h h' st q=>st.at q
 obj:=fun k h st=>let ⟨o,e,_,d⟩:=st; ⟨o,e,fun v z=>by rw [d] at z; cases z⟩
 inj:=fun X pins σ H s hK I xs ys h1 h2=>by subst hK; exact I.list_inj h1 h2
theorem src_tuple {P:Program} {w:World} {K:PySem.W.Frag} (i l:Addr) (hne:l≠i):ZSrc P w K i [i,l] (fun H xs=>SqT K H l xs) (fun k h=>h.IsTupleIter i l k) where
 part:=fun X pins σ H s hP hw hK I xs hq=>by
  subst hP hw hK
  obtain ⟨its,rv,p,hz⟩:=I.tuple hq
  have e:its.toArray.size=xs.length:=by simp [rv.length]
  refine ⟨_,_,e▸part_tuple i l hne its.toArray,fun k v hv=>?_,fun k h st=>st.1,fun k st=>⟨st,p⟩⟩
  have hv':its[k]?=some v:=by simpa using hv
  have hk:k < xs.length:=by rw [← e]; simp; exact (List.getElem?_eq_some_iff.mp hv').1
  obtain ⟨u,hu,ru⟩:=rv.get (show xs[k]?=some xs[k] by simp)
  rw [hv'] at hu
  cases hu
  exact ⟨_,by simp,ru⟩
 keep:=fun k h h' st q=>let ⟨o,e,r⟩:=st; ⟨o,q o e,r⟩
 obj:=fun k h st=>let ⟨o,e,_,d⟩:=st; ⟨o,e,fun v z=>by rw [d] at z; cases z⟩
 inj:=fun X pins σ H s hK I xs ys h1 h2=>by subst hK; exact I.tuple_inj h1 h2
noncomputable def chrs (x:Str):List V:=x.cps.toList.map fun c=>.str ⟨#[c]⟩
theorem src_str {P:Program} {w:World} {K:PySem.W.Frag} (i:Addr) (x:Str) (t:Tok):ZSrc P w K i [i] (fun _ xs=>xs=chrs x) (fun k h=>h.IsStrIter i (strIterType x) x t k) where
 part:=fun X pins σ H s hP hw hK I xs hq=>by
  subst hP hw hK hq
  have e:x.cps.size=(chrs x).length:=by unfold chrs; simp
  refine ⟨_,_,e▸part_str i x t,fun k v hv=>?_,fun k h st=>st,fun k st=>st⟩
  obtain ⟨c,u,h1,rfl⟩:=hv
  exact ⟨.str ⟨#[c]⟩,by unfold chrs; rw [List.getElem?_map]; simp [h1],u,rfl⟩
 keep:=fun k h h' st q=>let ⟨o,e,r⟩:=st; ⟨o,q o e,r⟩
 obj:=fun k h st=>let ⟨o,e,_,d⟩:=st; ⟨o,e,fun v z=>by rw [d] at z; cases z⟩
 inj:=fun X pins σ H s hK I xs ys h1 h2=>by rw [h1,h2]
section
variable {X:Cx} {pins:List (Addr×Obj)} {σ:St} {H H':Hp} {s:Shared} {h':Heap}
theorem turnedL {t':Nat} {ch:List Addr} (I:Inv X pins σ H s) (k:∀ b u,b∉ch→s.heap.get? b=some u→h'.get? b=some u) (hf:∀ b∈ch,FpOk X pins H b):Inv X pins σ H { s with heap:=h',toks:=t' }:=by
 have nch:∀ b u,H b=some u→b∉ch:=fun b u e z=>by rw [(hf b z).1] at e; cases e
 refine I.step (g':=s.gens) (d':=s.drawn) (ch:=ch) (fun b hb=>?_) (fun b u _ _ hc e _=>k b u hc e) (fun b u _ _ hc e _=>⟨u.slots,k b u hc e⟩) (fun b u _ e n=>n) (fun b u hc e=>⟨u,k b u hc e⟩)
  (fun b xs e=>e) (fun b u v e=>e) (fun b ps e=>⟨#[],?_⟩) (fun m hm=>?_) (fun b u e=>?_) I.bare
 · obtain ⟨_,f1,_,f3,f4,f5⟩:=hf b hb
   exact ⟨f3,f1,f4,f5⟩
 · rw [e]; simp
 · obtain ⟨ob,es,ep,ho,r⟩:=hm
   exact ⟨ob,es,ep,k _ ob (fun z=>(hf _ z).2.1 rfl) ho,r⟩
 · refine (I.hok b u e).stay (fun c v hc q=>k c v ?_ q) (fun c q=>q) fun c xs q=>q
   rcases hc with z | z
   · rw [z]; exact nch b u e
   · exact nch c _ z
end
noncomputable def Itz (sq1 sq2:Hp→List V→Prop):It :=
 ⟨fun i H=>∃ xs ys,sq1 H xs∧sq2 H ys∧i < xs.length∧i < ys.length,fun i H v H'=>∃ t x y,H t=none∧v = .ref t∧(∀ xs,sq1 H xs→xs[i]?=some x)∧(∀ ys,sq2 H ys→ys[i]?=some y)∧H'=upd H t (.tup [x,y]),
   fun i H=>∃ xs ys,sq1 H xs∧sq2 H ys∧(i=xs.length∨(i < xs.length∧i=ys.length))⟩
theorem turn_zip {P:Program} {w:World} {K:PySem.W.Frag} {elts:List Expr} {x1} {tp:Pos} {z TI TO i1 i2:Addr} {fp1 fp2:List Addr} {sq1 sq2:Hp→List V→Prop} {t1 t2:Nat→Heap→Prop} (D:Apart z TI TO i1 i2 fp1 fp2) (p1:ZSrc P w K i1 fp1 sq1 t1) (p2:ZSrc P w K i2 fp2 sq2 t2) :
  Turn P w K (.Tuple elts x1 tp) (Itz sq1 sq2) [z,TI,TO,i1,i2] z (fun i h=>IsZip h z TI TO .none∧IsPair h TI (.ref i1) (.ref i2)∧(∃ a b,IsPair h TO a b)∧t1 i h∧t2 i h) where
 mem:=by simp
 obj:=fun i h st b hb=>by
  obtain ⟨h1,h2,⟨a,c,h3⟩,h4,h5⟩:=st
  simp only [List.mem_cons,List.not_mem_nil,or_false] at hb
  rcases hb with rfl | rfl | rfl | rfl | rfl
  · exact ⟨_,h1,fun v q=>by cases q⟩
  · exact ⟨_,h2,fun v q=>by cases q⟩
  · exact ⟨_,h3,fun v q=>by cases q⟩
  · exact p1.obj i h h4
  · exact p2.obj i h h5
 keep:=fun i h h' st k=>by
  obtain ⟨h1,h2,⟨a,c,h3⟩,h4,h5⟩:=st
  exact ⟨k z (by simp) _ h1,k TI (by simp) _ h2,⟨a,c,k TO (by simp) _ h3⟩,p1.keep i h h' h4 fun o q=>k i1 (by simp) o q,p2.keep i h h' h5 fun o q=>k i2 (by simp) o q⟩
 item:=by
  intro X hP hw hK hc i pins s σ H E I hf st hg
  obtain ⟨xs,ys,hq1,hq2,l1,l2⟩:=hg
  obtain ⟨h1,h2,⟨a,c,h3⟩,h4,h5⟩:=st
  obtain ⟨P1,S1,q1,v1,b1,f1⟩:=p1.part X pins σ H s hP hw hK I xs hq1
  obtain ⟨P2,S2,q2,v2,b2,f2⟩:=p2.part X pins σ H s hP hw hK I ys hq2
  refine pyNext_zip_item (I.ok.hd hc) D q1 q2 h1 h2 h3 (f1 i h4) (f2 i h5) l1 l2 fun x y h₁ tk px py hz₁ hTO₁ s1 s2 hp₁ hsz hk=>?_
  obtain ⟨x',ex,rx⟩:=v1 i x px
  obtain ⟨y',ey,ry⟩:=v2 i y py
  refine ⟨_,rfl,wpAny_letOwnedTupleGo_zip hz₁ fun h₂ hz₂ hs₂=>?_⟩
  have hs₂':Heap.SameBut z h₁ h₂:=hs₂
  have hlt:z < s.heap.objs.size:=Heap.lt_size h1
  have hte:s.heap.objs.size≠z:=Nat.ne_of_gt hlt
  have kk:∀ b ob,b∉[z,TI,TO,i1,i2]→s.heap.get? b=some ob→h₂.get? b=some ob:=fun b ob hb q=>by
   simp only [List.mem_cons,List.not_mem_nil,or_false,not_or] at hb
   exact (hs₂'.2 b hb.1).trans (hk b ob hb.1 hb.2.2.1 hb.2.2.2.1 hb.2.2.2.2 q)
  have new:ObjOk X.prog X.w (upd H s.heap.objs.size (.tup [x',y'])) h₂ s.heap.objs.size (.tup [x',y']) :=
   ⟨by show 2≤sizeLine; rw [sizeLine_eq]; decide,[x,y],.cons rx (.cons ry .nil),⟨_,(hs₂'.2 _ hte).trans hp₁,rfl,_,rfl⟩⟩
  refine ⟨.ref s.heap.objs.size,upd H s.heap.objs.size (.tup [x',y']),I.grown (t':=tk) kk hf (Nat.le_refl _) new,rfl,⟨_,x',y',I.fresh,rfl,fun zs hz=>by rw [p1.inj X pins σ H s hK I _ _ hz hq1]; exact ex,fun zs hz=>by rw [p2.inj X pins σ H s hK I _ _ hz hq2]; exact ey,rfl⟩,⟨hz₂,?_,⟨x,y,?_⟩,?_,?_⟩,fun b hb=>?_⟩
  · exact (hs₂'.2 TI D.TIz).trans (hk TI _ D.TIz D.TITO D.TIi1 D.TIi2 h2)
  · exact (hs₂'.2 TO D.TOz).trans hTO₁
  · exact p1.keep _ _ _ (b1 _ _ s1) fun o q=>(hs₂'.2 i1 D.i1z).trans q
  · exact p2.keep _ _ _ (b2 _ _ s2) fun o q=>(hs₂'.2 i2 D.i2z).trans q
  · have hbl:b < s.heap.objs.size:=by
     simp only [List.mem_cons,List.not_mem_nil,or_false] at hb
     rcases hb with rfl | rfl | rfl | rfl | rfl
     · exact hlt
     · exact Heap.lt_size h2
     · exact Heap.lt_size h3
     · obtain ⟨o,e,_⟩:=p1.obj i _ h4; exact Heap.lt_size e
     · obtain ⟨o,e,_⟩:=p2.obj i _ h5; exact Heap.lt_size e
    rw [upd_ne (Nat.ne_of_lt hbl)]
    exact (hf b hb).1
 done:=by
  intro X hP hw hK hc i pins s σ H E I hf st hg
  obtain ⟨xs,ys,hq1,hq2,he⟩:=hg
  obtain ⟨h1,h2,⟨a,c,h3⟩,h4,h5⟩:=st
  obtain ⟨P1,S1,q1,v1,b1,f1⟩:=p1.part X pins σ H s hP hw hK I xs hq1
  obtain ⟨P2,S2,q2,v2,b2,f2⟩:=p2.part X pins σ H s hP hw hK I ys hq2
  refine pyNext_zip_end (I.ok.hd hc) D q1 q2 h1 h2 h3 (f1 i h4) (f2 i h5) he fun h' tk hk=>⟨rfl,?_⟩
  refine turnedL (t':=tk) I (fun b u hb q=>?_) hf
  simp only [List.mem_cons,List.not_mem_nil,or_false,not_or] at hb
  exact hk b u hb.1 hb.2.2.1 hb.2.2.2.1 hb.2.2.2.2 q
 self:=fun _ _ _ _ _ st h=>by
  obtain ⟨h1,_⟩:=st
  exact wpAny_pyIter_zip h1 h
end VT
namespace VT
open PySem PySem.Spec PyProof.Rows L2
inductive ZK (K:PySem.W.Frag) (H:Hp):V→(Hp→List V→Prop)→Prop where
 | lst {a:Addr} {xs:List V}:SqL K H a xs→ZK K H (.ref a) (fun H xs=>SqL K H a xs)
 | tup {a:Addr} {xs:List V}:SqT K H a xs→ZK K H (.ref a) (fun H xs=>SqT K H a xs)
 | str (z:Str):ZK K H (.str z) (fun _ xs=>xs=chrs z)
theorem zk_at {X:Cx} {pins:List (Addr×Obj)} {σ:St} {H:Hp} {s:Shared} {x:V} {u:Value} {sq:Hp→List V→Prop} (I:Inv X pins σ H s) (z:ZK X.K H x sq) (r:RelV x u) :
  ∃ (o:Obj) (c:Heap→Prop) (fp:List Addr) (it:Addr→Nat→Heap→Prop),IterOf u o c∧c s.heap∧(∀ h o,c h→c (h.push o))∧o.isFreed=false∧(∀ b∈fp,b < s.heap.objs.size) ∧
   ∀ i,s.heap.objs.size≤i→ZSrc X.prog X.w X.K i (i :: fp) sq (it i)∧∀ h,h.get? i=some o→it i 0 h:=by
 cases z with
 | lst hq =>
   rename_i a xs
   cases r
   obtain ⟨its,rv,p,hz⟩:=I.list hq
   have hl:a < s.heap.objs.size:=by obtain ⟨o,n,e,_⟩:=p; exact Heap.lt_size e
   refine ⟨_,_,[a],fun i k h=>h.IsListIter i a k,iterOf_list a its.toArray,p.isList,fun h o q=>Heap.IsList.push q _,rfl,fun b hb=>by rw [List.mem_singleton.mp hb]; exact hl,fun i hi=>⟨src_list i a (Nat.ne_of_lt (Nat.lt_of_lt_of_le hl hi)),fun h e=>⟨_,e,rfl,rfl⟩⟩⟩
 | tup hq =>
   rename_i a xs
   cases r
   obtain ⟨its,rv,p,hz⟩:=I.tuple hq
   have hl:a < s.heap.objs.size:=by obtain ⟨o,e,_⟩:=p; exact Heap.lt_size e
   refine ⟨_,_,[a],fun i k h=>h.IsTupleIter i a k,iterOf_tuple a its.toArray,p,fun h o q=>(let ⟨o',e,r⟩:=q; ⟨o',Heap.get?_push_of_some _ e,r⟩),rfl,fun b hb=>by rw [List.mem_singleton.mp hb]; exact hl,fun i hi=>⟨src_tuple i a (Nat.ne_of_lt (Nat.lt_of_lt_of_le hl hi)),fun h e=>⟨_,e,rfl,rfl⟩⟩⟩
 | str z =>
   obtain ⟨t,rfl⟩:=r
   refine ⟨_,_,[],fun i k h=>h.IsStrIter i (strIterType z) z t k,iterOf_str z t,trivial,fun _ _ _=>trivial,rfl,fun b hb=>?_,fun i hi=>⟨src_str i z t,fun h e=>⟨_,e,rfl,rfl⟩⟩⟩
   cases hb
theorem nn {a b:Nat} (h:a < b):a≠b:=Nat.ne_of_lt h
theorem apart_mk {n:Nat} {fp1 fp2:List Addr} (h1:∀ b∈fp1,b < n) (h2:∀ b∈fp2,b < n):Apart (n+4) (n+2) (n+3) n (n+1) (n :: fp1) ((n+1) :: fp2):=by
 have k1:∀ b:Nat,n < b→b∉(n :: fp1):=fun b hb m=>by
  rcases List.mem_cons.mp m with q | q
  · exact Nat.ne_of_gt hb q
  · exact Nat.lt_irrefl _ (Nat.lt_trans hb (h1 b q))
 have k2:∀ b:Nat,n+1 < b→b∉((n+1) :: fp2):=fun b hb m=>by
  rcases List.mem_cons.mp m with q | q
  · exact Nat.ne_of_gt hb q
  · exact Nat.lt_irrefl _ (Nat.lt_trans (Nat.lt_trans (Nat.lt_succ_self n) hb) (h2 b q))
 have k3:n∉((n+1) :: fp2):=fun m=>by
  rcases List.mem_cons.mp m with q | q
  · exact Nat.ne_of_lt (Nat.lt_succ_self n) q
  · exact Nat.lt_irrefl _ (h2 n q)
 exact ⟨nn (by omega),nn (by omega),nn (by omega),nn (by omega),nn (by omega),(nn (by omega)).symm,(nn (by omega)).symm,(nn (by omega)).symm,(nn (by omega)).symm,nn (by omega),k1 _ (by omega),k2 _ (by omega),k1 _ (by omega),k2 _ (by omega),k1 _ (by omega),k3⟩
theorem five_ge {n c:Nat} (h:c∈[n+4,n+2,n+3,n,n+1]):n≤c:=by
 simp only [List.mem_cons,List.not_mem_nil,or_false] at h
 omega
noncomputable def iZip (K:PySem.W.Frag) (ta:TA):TI:=fun σ H R=>ta σ H fun vs H1=>∃ x y sq1 sq2,vs=[x,y]∧ZK K H1 x sq1∧ZK K H1 y sq2∧R (Itz sq1 sq2) H1
section
variable {X:Cx} {Z:Zc}
theorem boot_zip:bootBuiltins "zip" = some (.type "zip"):=by decide +kernel
theorem pi_zip {elts:List Expr} {x1} {tp:Pos} {a b:Expr} {ta:TA} {p pos:Pos} (hg:Gl X "zip") (hm:X.mg "zip" = none) (ha:PA X [a,b] ta) (hs:starEach [a,b] X.env=[(false,eval a X.env),(false,eval b X.env)]) (hs2:starEach [b] X.env=[(false,eval b X.env)]) :
  PI X (.Tuple elts x1 tp) (.Call (.Name "zip" p) [a,b] [] pos) (iZip X.K ta):=by
 intro pins s σ H R I h
 refine Call_ (ld_blt I hg hm boot_zip (PyProof.Rows.callWith_type1 (thn (ha pos pins s σ H _ I h) fun us s1 ⟨vs,H1,I1,r1,q1⟩=>?_) (by rw [hs,hs2]) (by rw [hs2]; rfl)))
 obtain ⟨x,y,sq1,sq2,e,k1,k2,q⟩:=q1
 subst e
 obtain ⟨u,w',rfl,ru,rw'⟩:=vals2 r1
 obtain ⟨o1,c1,fp1,t1,i1,hc1,hp1,hf1,hb1,z1⟩:=zk_at I1 k1 ru
 obtain ⟨o2,c2,fp2,t2,i2,hc2,hp2,hf2,hb2,z2⟩:=zk_at I1 k2 rw'
 refine call_zipG i1 i2 hp2 hc1 hc2 hf1 hf2 fun h' hz hTI hTO g1 g2 hsz hk=>?_
 have I2:Inv X pins σ H1 { s1 with heap:=h' }:=I1.kept (t':=s1.toks) hk
 refine wpAny_pyIter_zip hz ?_
 obtain ⟨S1,a1⟩:=z1 s1.heap.objs.size (Nat.le_refl _)
 obtain ⟨S2,a2⟩:=z2 (s1.heap.objs.size+1) (Nat.le_succ _)
 have D:Apart (s1.heap.objs.size+4) (s1.heap.objs.size+2) (s1.heap.objs.size+3) s1.heap.objs.size (s1.heap.objs.size+1) (s1.heap.objs.size :: fp1) ((s1.heap.objs.size+1) :: fp2):=by
  exact apart_mk hb1 hb2
 refine ⟨s1.heap.objs.size+4,_,_,_,H1,rfl,I2,turn_zip D S1 S2,⟨hz,hTI,⟨_,_,hTO⟩,a1 _ g1,a2 _ g2⟩,fun c hc=>?_,q⟩
 have hge:s1.heap.objs.size≤c:=five_ge hc
 exact I1.fpOk hge (I1.hok.fresh hge)
noncomputable def seqT:T→Option (List T)
 | .lst ts=>some ts
 | .tup ts=>some ts
 | .str z=>some (z.cps.toList.map fun c=>.str ⟨#[c]⟩)
 | _=>none
noncomputable def zipT (xs ys:List T):List T:=List.zipWith (fun a b=>.tup [a,b]) xs ys
noncomputable def fZip (fa fb:FE):FI:=fun ρ Q=>fa ρ fun x=>fb ρ fun y=>match seqT x,seqT y with
 | some xs,some ys=>Q (zipT xs ys)
 | _,_=>False
theorem zk_of {K:PySem.W.Frag} {H:Hp} {A:List Addr} {x:T} {v:V} {xs:List T} (h:At K H A x v) (e:seqT x=some xs):∃ sq,ZK K H v sq∧∀ H A,At K H A x v→∃ vs,sq H vs∧AtL K H A xs vs:=by
 cases x with
 | lst ts =>
   cases e
   simp only [At] at h
   obtain ⟨a,vs,rfl,l,q⟩:=h
   refine ⟨_,.lst l.sq,fun H A h=>?_⟩
   simp only [At] at h
   obtain ⟨a',vs',e,l',q'⟩:=h
   cases e
   exact ⟨vs',l'.sq,q'⟩
 | tup ts =>
   cases e
   simp only [At] at h
   obtain ⟨a,vs,rfl,l,q⟩:=h
   refine ⟨_,.tup l,fun H A h=>?_⟩
   simp only [At] at h
   obtain ⟨a',vs',e,l',q'⟩:=h
   cases e
   exact ⟨vs',l',q'⟩
 | str z =>
   cases e
   simp only [At] at h
   subst h
   refine ⟨_,.str z,fun H A h=>⟨chrs z,rfl,?_⟩⟩
   unfold chrs
   generalize z.cps.toList=l
   induction l with
   | nil=>exact AtL.nil
   | cons c l ih=>exact AtL.cons at_str ih
 | _=>cases e
theorem wk_zip {K:PySem.W.Frag} {x y:T} {v w:V} {xs ys:List T} {sq1 sq2:Hp→List V→Prop} (h1:∀ H A,At K H A x v→∃ vs,sq1 H vs∧AtL K H A xs vs) (h2:∀ H A,At K H A y w→∃ vs,sq2 H vs∧AtL K H A ys vs) :
  Wk K (Itz sq1 sq2) [(x,v),(y,w)] (zipT xs ys):=fun H A hA h i=>by
 obtain ⟨vs,q1,l1⟩:=h1 H A (h _ List.mem_cons_self)
 obtain ⟨ws,q2,l2⟩:=h2 H A (h _ (List.mem_cons_of_mem _ List.mem_cons_self))
 have e1:=l1.length
 have e2:=l2.length
 have el:(zipT xs ys).length=min xs.length ys.length:=by unfold zipT; rw [List.length_zipWith]
 rw [el]
 refine ⟨fun hi=>⟨vs,ws,q1,q2,by omega,by omega⟩,fun hi=>⟨vs,ws,q1,q2,by omega⟩,fun t ht x H' y=>?_⟩
 obtain ⟨p,a,b,hp,rfl,ha,hb,rfl⟩:=y
 unfold zipT at ht
 rw [List.getElem?_zipWith] at ht
 cases ex:xs[i]? with
 | none=>rw [ex] at ht; cases ht
 | some tx =>
   cases ey:ys[i]? with
   | none=>rw [ex,ey] at ht; cases ht
   | some ty =>
     rw [ex,ey] at ht
     cases ht
     obtain ⟨v1,g1,g2⟩:=l1.get ex
     obtain ⟨v2,g3,g4⟩:=l2.get ey
     have z1:=ha vs q1
     have z2:=hb ws q2
     rw [g1] at z1
     rw [g3] at z2
     cases z1
     cases z2
     exact ⟨same_upd hp,at_tup (SqT.of upd_same) (AtL.cons (g2.same (same_upd hp)) (AtL.cons (g4.same (same_upd hp)) AtL.nil))⟩
theorem vi_zip {elts:List Expr} {x1} {tp p pos:Pos} {a b:Expr} {fa fb:FE} (hg:Gl X "zip") (hm:X.mg "zip" = none) (ha:VE X Z a fa) (hb:VE X Z b fb)
  (hs:starEach [a,b] X.env=[(false,eval a X.env),(false,eval b X.env)]:=by rfl) (hs2:starEach [b] X.env=[(false,eval b X.env)]:=by rfl) :
  VI X Z (.Tuple elts x1 tp) (.Call (.Name "zip" p) [a,b] [] pos) (fZip fa fb):=.mk fun tm =>
 PI.weak (pi_zip hg hm (pa_cons (ha tm) (pa_cons (hb tm) pa_nil hs2) (by rw [hs,hs2])) hs hs2) fun σ H R ⟨ρ,O,q,I,hf,k⟩=>⟨ρ,O,_,I,hf,fun x hx v H1 s1 a1=>⟨ρ,O,_,I.same s1,hx,fun y hy w H2 s2 a2=>by
  split at hy
  · rename_i xs ys e1 e2
    obtain ⟨sq1,k1,w1⟩:=zk_of (a1.same s2) e1
    obtain ⟨sq2,k2,w2⟩:=zk_of a2 e2
    exact ⟨v,w,sq1,sq2,rfl,k1,k2,k _ hy _ H2 _ (s1.trans s2) (fun p hp=>by
     rcases List.mem_cons.mp hp with e | hp
     · rw [e]; exact a1.same s2
     · rw [List.mem_singleton.mp hp]; exact a2) (wk_zip w1 w2)⟩
  · exact hy.elim⟩⟩
end
end VT
namespace Gen
open PySem L2 VT
open K01 (letters)
theorem small {n:Nat} (h:n≤1000):n≤sizeLine:=Nat.le_of_lt (small1000 h)
noncomputable def letC (n:Int):Nat:=letters.cps.toList.getD (n % 26).toNat 0
theorem letters_len:letters.cps.toList.length=26:=by decide +kernel
theorem letters_len':letters.length=26:=by decide +kernel
theorem letters_small:letters.length≤sizeLine:=by rw [letters_len',sizeLine_eq]; decide
theorem letter_at (n:Int):atI letters.cps.toList (n % 26)=some (letC n):=by
 have h0:0≤n % 26:=Int.emod_nonneg n (by decide)
 have h1:n % 26 < 26:=Int.emod_lt_of_pos n (by decide)
 unfold letC
 obtain ⟨j,hj⟩:=Int.eq_ofNat_of_zero_le h0
 rw [hj]
 have hlt:j < letters.cps.toList.length:=by rw [letters_len]; omega
 refine atI_nat ?_
 rw [Int.toNat_natCast,List.getD,List.getElem?_eq_getElem hlt]
 rfl
noncomputable def c12 (c:Int):Int:=c % 1000000000000
noncomputable def szN (c:Int):Nat:=(1+c12 c % 7).toNat
noncomputable def atN (c:Int):Nat:=(c12 c / 7 % (szN c:Int)).toNat
noncomputable def numJ (c:Int) (k j:Nat):Int:=c12 c / 49 / ((j:Int)+1)+(j:Int) * (j:Int)+(if j=atN c then (k:Int) else 0)
noncomputable def wordK (c:Int) (k n:Nat):Str:=⟨((List.range n).map fun j=>letC (numJ c k j)).toArray⟩
noncomputable def wordsL (c:Int) (m:Nat):List Str :=
 if c12 c / 49 % 3=1 then ((List.range m).map fun k=>wordK c k (szN c)).set 1 (wordK c 0 (szN c) ++ ⟨#[letC (c12 c / 147)]⟩) else (List.range m).map fun k=>wordK c k (szN c)
theorem sz_eq (c:Int):((szN c:Nat):Int)=1+c12 c % 7:=by
 unfold szN
 have:0≤c12 c % 7:=Int.emod_nonneg _ (by decide)
 omega
theorem sz_pos (c:Int):1≤szN c∧szN c≤7:=by
 have:=sz_eq c
 have h0:0≤c12 c % 7:=Int.emod_nonneg _ (by decide)
 have h1:c12 c % 7 < 7:=Int.emod_lt_of_pos _ (by decide)
 omega
theorem at_eq (c:Int):((atN c:Nat):Int)=c12 c / 7 % (szN c:Int):=by
 unfold atN
 have h:=sz_pos c
 have:0≤c12 c / 7 % (szN c:Int):=Int.emod_nonneg _ (by omega)
 omega
theorem wordK_succ (c:Int) (k n:Nat):wordK c k (n+1)=wordK c k n ++ ⟨#[letC (numJ c k n)]⟩:=by
 unfold wordK
 rw [List.range_succ,List.map_append]
 show _=Str.mk (_ ++ _)
 congr 1
 simp
theorem wordK_len (c:Int) (k n:Nat):(wordK c k n).length=n:=by
 unfold wordK Str.length
 simp
theorem wordsL_len (c:Int) (m:Nat):(wordsL c m).length=m:=by
 unfold wordsL
 split <;> simp
theorem ten12:(10:Int) ^ (12:Int).toNat=1000000000000:=by decide +kernel
inductive Opd where
 | nm (x:Str)
 | nu (i:Int)
inductive Ky where
 | fld (x:Str)
 | op (o:Opd)
inductive Rw where
 | df (f:Str) (ps:List Str)
 | give (a:Opd)
 | put (x:Str) (a:Opd)
 | dow (x:Str) (a:Opd) (op:Str) (b:Opd)
 | new (x:Str)
 | get (x r:Str) (k:Ky)
 | set (r:Str) (k:Ky) (a:Opd)
 | call (x f:Str) (as:List Opd)
 | fail (w:Str)
 | ifr (a:Opd)
 | els
 | whl (a:Opd)
 | fin
 | skip
noncomputable def opT:Opd→T
 | .nm x=>.str x
 | .nu i=>.int i
noncomputable def kyT:Ky→T
 | .fld x=>.str ((("." : String):Str) ++ x)
 | .op o=>opT o
noncomputable def rowT:Rw→T
 | .df f ps=>.tup [.str "def",.str f,.tup (ps.map .str)]
 | .give a=>.tup [.str "give",opT a]
 | .put x a=>.tup [.str "put",.str x,opT a]
 | .dow x a op b=>.tup [.str "do",.str x,opT a,.str op,opT b]
 | .new x=>.tup [.str "new",.str x]
 | .get x r k=>.tup [.str "get",.str x,.str r,kyT k]
 | .set r k a=>.tup [.str "set",.str r,kyT k,opT a]
 | .call x f as=>.tup [.str "call",.str x,.str f,.tup (as.map opT)]
 | .fail w=>.tup [.str "fail",.str w]
 | .ifr a=>.tup [.str "if",opT a]
 | .els=>.tup [.str "else"]
 | .whl a=>.tup [.str "while",opT a]
 | .fin=>.tup [.str "end"]
 | .skip=>.tup [.str "skip"]
noncomputable def OpdOf (ys:List Str):Opd→Prop
 | .nm x=>x∈ys
 | .nu i=>-1000000000000000000000000000000≤i∧i < 1000000000000000000000000000000
noncomputable def KyOf (ys:List Str):Ky→Prop
 | .fld x=>x∈ys
 | .op o=>OpdOf ys o
noncomputable abbrev Plan:=List (Str×List Str)
noncomputable def reckon:List Str:=["plus","minus","times","over","rest","less","same"]
noncomputable def SimpleRw (ys:List Str) (later:Plan):Rw→Prop
 | .put x a=>x∈ys∧OpdOf ys a
 | .dow x a op b=>x∈ys∧OpdOf ys a∧op∈reckon∧OpdOf ys b
 | .new x=>x∈ys
 | .get x r k=>x∈ys∧r∈ys∧KyOf ys k
 | .set r k a=>r∈ys∧KyOf ys k∧OpdOf ys a
 | .call x f as=>x∈ys∧(∃ ps,(f,ps)∈later∧as.length=ps.length)∧∀ a∈as,OpdOf ys a
 | .fail w=>w∈ys
 | .skip=>True
 | _=>False
end Gen
namespace Gen
open PySem L2 VT
noncomputable def LayRel (ys:List Str) (pl:Plan) (sts:List Str) (new:List Rw) (sts':List Str):Prop :=
 (∃ o,OpdOf ys o∧new=[.ifr o]∧sts'=sts ++ ([("if" : Str)]:List Str))∨(∃ o,OpdOf ys o∧new=[.whl o]∧sts'=sts ++ ([("while" : Str)]:List Str)) ∨
 (∃ y,y∈ys∧new=[.whl (.nm y),.dow y (.nm y) "minus" (.nu 1)]∧sts'=sts ++ ([("while" : Str)]:List Str))∨(∃ s0,sts=s0 ++ ([("if" : Str)]:List Str)∧new=[.els]∧sts'=s0 ++ ([("else" : Str)]:List Str)) ∨
 (∃ s0 x,sts=s0 ++ [x]∧new=[.fin]∧sts'=s0)∨(∃ r,SimpleRw ys pl r∧new=[r]∧sts'=sts)
inductive Body (ys:List Str) (later:Plan):List Str→List Rw→Prop
 | nil:Body ys later [] []
 | step {sts sts':List Str} {body new:List Rw}:Body ys later sts body→LayRel ys later sts new sts'→Body ys later sts' (body ++ new)
theorem plains_map {α:Type} {f:α→T} (h:∀ x,plainT (f x)=true):∀ l:List α,plainTs (l.map f)=true
 | []=>by simp [plainTs]
 | x :: l=>by simp only [List.map_cons,plainTs,h x,plains_map h l,Bool.and_self]
theorem deps_map {α:Type} {f:α→T} {n:Nat} (h:∀ x,dep (f x)≤n):∀ l:List α,deps (l.map f)≤n
 | []=>by simp [deps]
 | x :: l=>by have:=h x; have:=deps_map h l; simp only [List.map_cons,deps]; omega
theorem opT_plain (o:Opd):plainT (opT o)=true:=by cases o <;> simp [opT,plainT]
theorem kyT_plain (o:Ky):plainT (kyT o)=true:=by cases o with | fld x=>simp [kyT,plainT] | op o=>exact opT_plain o
theorem rowT_plain (r:Rw):plainT (rowT r)=true:=by
 cases r <;> simp [rowT,plainT,plainTs,opT_plain,kyT_plain,plains_map (f:=T.str) (fun _=>by simp [plainT]),plains_map (f:=opT) opT_plain]
theorem opT_dep (o:Opd):dep (opT o)=0:=by cases o <;> simp [opT,dep]
theorem kyT_dep (o:Ky):dep (kyT o)=0:=by cases o with | fld x=>simp [kyT,dep] | op o=>exact opT_dep o
theorem rowT_dep (r:Rw):dep (rowT r)≤2:=by
 have h1:=fun l:List Str=>deps_map (f:=T.str) (n:=0) (fun _=>by simp [dep]) l
 have h2:=fun l:List Opd=>deps_map (f:=opT) (n:=0) (fun o=>by simp [opT_dep]) l
 cases r <;> simp [rowT,dep,deps,opT_dep,kyT_dep] <;> first | (rename_i x; have:=h1 x; omega) | (rename_i x; have:=h2 x; omega) | skip
end Gen
namespace Gen
open PySem L2 VT
open K01 (letters inL nameS)
end Gen
namespace Gen
open PySem L2 VT
theorem loop_enum {α:Type} {f:α→T} {xs:List α} {h:FG} {g:FS} {d:VEn} {ρ:En} (Pv:Nat→En→Prop) (h0:Pv 0 ρ) (hs:∀ (i:Nat) x ρ',xs[i]?=some x→Pv i ρ'→h (.tup [.int (i:Int),f x]) ρ' fun ρ2=>g { nx:=Pv (i+1),ct:=Pv (i+1),bk:=d.nx,rt:=d.rt } ρ2)
 (hd:∀ ρ',Pv xs.length ρ'→d.nx ρ'):LoopW (enumT (xs.map f)) h g d ρ:=⟨Pv,h0,fun i t ρ' e p=>by
   unfold enumT at e
   rw [List.getElem?_mapIdx,List.getElem?_map] at e
   cases q:xs[i]? with
   | none=>rw [q] at e; cases e
   | some x=>rw [q] at e; cases e; exact hs i x ρ' q p,fun ρ' p=>hd ρ' (by unfold enumT at p; rw [List.length_mapIdx,List.length_map] at p; exact p)⟩
end Gen
namespace Gen
open PySem L2 VT
noncomputable def alk:List (Str×Nat)→Str→Option Nat
 | [],_=>none
 | (k,i) :: l,f=>if k=f then some i else alk l f
theorem alk_app (l m:List (Str×Nat)) (f:Str):alk (l ++ m) f=match alk l f with
  | some i=>some i
  | none=>alk m f:=by
 induction l with
 | nil=>rfl
 | cons p l ih =>
   obtain ⟨k,i⟩:=p
   simp only [List.cons_append,alk]
   by_cases h:k=f
   · rw [if_pos h,if_pos h]
   · rw [if_neg h,if_neg h]; exact ih
noncomputable def fdS (l:List (Str×Nat)) (i:Nat):Rw→List (Str×Nat)
 | .df f _=>match alk l f with
   | some _=>l
   | none=>l ++ [(f,i)]
 | _=>l
noncomputable def firstL (rs:List Rw):Nat→List (Str×Nat)
 | 0=>[]
 | n+1=>match rs[n]? with
   | some r=>fdS (firstL rs n) n r
   | none=>firstL rs n
theorem first_has {rs:List Rw} {f:Str} {i:Nat} {ps:List Str} (hi:rs[i]?=some (.df f ps)):∀ n,i < n→∃ j,alk (firstL rs n) f=some j
 | 0,h=>absurd h (by omega)
 | n+1,h=>by
   simp only [firstL]
   by_cases e:i=n
   · subst e
     rw [hi]
     simp only [fdS]
     cases ha:alk (firstL rs i) f with
     | some j=>exact ⟨j,ha⟩
     | none =>
       refine ⟨i,?_⟩
       simp only
       rw [alk_app,ha]
       simp only [alk,if_true]
   · obtain ⟨j,hj⟩:=first_has hi n (by omega)
     split
     · rename_i r hr
       cases r with
       | df g qs =>
         simp only [fdS]
         split
         · exact ⟨j,hj⟩
         · rw [alk_app,hj]; exact ⟨j,rfl⟩
       | _=>exact ⟨j,hj⟩
     · exact ⟨j,hj⟩
end Gen
namespace K5
structure Kd where
 op:Bool
 cl:Bool
 el:Bool
 df:Bool
deriving DecidableEq,Inhabited
section
variable (kd:Nat→Kd)
noncomputable def st:Nat→List Nat
 | 0=>[]
 | k+1=>let s:=if (kd k).cl=true then (st k).dropLast else st k
   if (kd k).op=true then s ++ [k] else s
noncomputable def dp (k:Nat):Nat:=(st kd k).length
structure WF (n:Nat):Prop where
 ex:∀ k,k < n→(kd k).op=true→(kd k).cl=false
 cl:∀ k,k < n→(kd k).cl=true→st kd k≠[]
 el:∀ k,k < n→(kd k).el=true→st kd k≠[]
 nc:∀ k,k < n→(kd k).el=true→(kd k).cl=false∧(kd k).op=false
 dn:∀ k,k < n→(kd k).df=true→(kd k).op=true
 fin:st kd n=[]
end
section
variable {kd:Nat→Kd} {n:Nat}
theorem st_op {k:Nat} (h:(kd k).op=true) (h':(kd k).cl=false):st kd (k+1)=st kd k ++ [k]:=by simp [st,h,h']
theorem st_cl {k:Nat} (h:(kd k).cl=true) (h':(kd k).op=false):st kd (k+1)=(st kd k).dropLast:=by simp [st,h,h']
theorem st_ot {k:Nat} (h:(kd k).cl=false) (h':(kd k).op=false):st kd (k+1)=st kd k:=by simp [st,h,h']
theorem WF.ex' (W:WF kd n) {k:Nat} (hk:k < n) (h:(kd k).cl=true):(kd k).op=false:=by
 cases q:(kd k).op with
 | false=>rfl
 | true=>rw [W.ex k hk q] at h; cases h
theorem dp_op (W:WF kd n) {k:Nat} (hk:k < n) (h:(kd k).op=true):dp kd (k+1)=dp kd k+1:=by
 unfold dp; rw [st_op h (W.ex k hk h)]; simp
theorem dp_cl (W:WF kd n) {k:Nat} (hk:k < n) (h:(kd k).cl=true):dp kd (k+1)+1=dp kd k:=by
 unfold dp; rw [st_cl h (W.ex' hk h),List.length_dropLast]
 have:0 < (st kd k).length:=List.length_pos_iff.mpr (W.cl k hk h)
 omega
theorem dp_ot {k:Nat} (h:(kd k).cl=false) (h':(kd k).op=false):dp kd (k+1)=dp kd k:=by unfold dp; rw [st_ot h h']
theorem st_at (W:WF kd n):∀ k,k≤n→∀ i j,(st kd k)[i]?=some j→j < k∧(kd j).op=true∧dp kd j=i∧∀ m,j < m→m≤k→i < dp kd m
 | 0,_,i,j,h=>by simp [st] at h
 | k+1,hk,i,j,h=>by
   have ih:=st_at W k (by omega)
   have hk':k < n:=by omega
   have ext:∀ {i j:Nat},(st kd k)[i]?=some j→i < dp kd (k+1)→j < k+1∧(kd j).op=true∧dp kd j=i∧∀ m,j < m→m≤k+1→i < dp kd m:=fun {i j} h hd=>by
    obtain ⟨a,b,c,d⟩:=ih i j h
    refine ⟨by omega,b,c,fun m h1 h2=>?_⟩
    by_cases e:m=k+1
    · rw [e]; exact hd
    · exact d m h1 (by omega)
   by_cases ho:(kd k).op=true
   · rw [st_op ho (W.ex k hk' ho)] at h
     have hd:=dp_op W hk' ho
     by_cases hi:i < (st kd k).length
     · rw [List.getElem?_append_left hi] at h
       exact ext h (by rw [hd]; exact Nat.lt_succ_of_lt hi)
     · rw [List.getElem?_append_right (by omega)] at h
       have e:i - (st kd k).length=0:=by
        cases q:i - (st kd k).length with
        | zero=>rfl
        | succ r=>rw [q] at h; simp at h
       rw [e] at h
       simp at h
       subst h
       have ei:i=dp kd k:=by unfold dp; omega
       refine ⟨by omega,ho,ei.symm,fun m h1 h2=>?_⟩
       have:m=k+1:=by omega
       rw [this,hd,ei]; omega
   · have ho':(kd k).op=false:=by cases q:(kd k).op <;> simp_all
     by_cases hc:(kd k).cl=true
     · rw [st_cl hc ho'] at h
       have hi:i < (st kd k).dropLast.length:=(List.getElem?_eq_some_iff.mp h).1
       have hd:dp kd (k+1)=(st kd k).dropLast.length:=by unfold dp; rw [st_cl hc ho']
       rw [List.getElem?_dropLast,if_pos (by rw [List.length_dropLast] at hi; exact hi)] at h
       exact ext h (by rw [hd]; exact hi)
     · have hc':(kd k).cl=false:=by cases q:(kd k).cl <;> simp_all
       rw [st_ot hc' ho'] at h
       have hd:dp kd (k+1)=dp kd k:=dp_ot hc' ho'
       exact ext h (by rw [hd]; exact (List.getElem?_eq_some_iff.mp h).1)
theorem at_st (W:WF kd n) {j:Nat} (ho:(kd j).op=true):∀ k,j < k→k≤n→(∀ m,j < m→m≤k→dp kd j < dp kd m)→(st kd k)[dp kd j]?=some j
 | 0,h,_,_=>by omega
 | k+1,h,hk,hm=>by
   have hk':k < n:=by omega
   by_cases e:j=k
   · subst e
     rw [st_op ho (W.ex j hk' ho)]
     unfold dp
     rw [List.getElem?_append_right (Nat.le_refl _)]
     simp
   · have ih:=at_st W ho k (by omega) (by omega) fun m h1 h2=>hm m h1 (by omega)
     have hd:=hm (k+1) (by omega) (Nat.le_refl _)
     by_cases ho':(kd k).op=true
     · rw [st_op ho' (W.ex k hk' ho'),List.getElem?_append_left (List.getElem?_eq_some_iff.mp ih).1]; exact ih
     · have ho'':(kd k).op=false:=by cases q:(kd k).op <;> simp_all
       by_cases hc:(kd k).cl=true
       · have hl:dp kd (k+1)=(st kd k).length - 1:=by unfold dp; rw [st_cl hc ho'',List.length_dropLast]
         rw [st_cl hc ho'',List.getElem?_dropLast,if_pos (by omega)]; exact ih
       · have hc':(kd k).cl=false:=by cases q:(kd k).cl <;> simp_all
         rw [st_ot hc' ho'']; exact ih
noncomputable def endFrom (kd:Nat→Kd) (n d:Nat):Nat→Nat→Option Nat
 | 0,_=>none
 | f+1,k=>if k < n then (if dp kd (k+1)=d then some k else endFrom kd n d f (k+1)) else none
noncomputable def endOf (kd:Nat→Kd) (n j:Nat):Option Nat:=endFrom kd n (dp kd j) (n - (j+1)) (j+1)
theorem endFrom_some {d:Nat}:∀ {f k e:Nat},endFrom kd n d f k=some e→k≤e∧e < n∧dp kd (e+1)=d∧∀ m,k≤m→m < e→dp kd (m+1)≠d
 | 0,_,_,h=>by cases h
 | f+1,k,e,h=>by
   simp only [endFrom] at h
   split at h
   · rename_i hk
     split at h
     · rename_i hd
       cases h
       exact ⟨Nat.le_refl _,hk,hd,fun m h1 h2=>by omega⟩
     · rename_i hd
       obtain ⟨a,b,c,r⟩:=endFrom_some h
       refine ⟨by omega,b,c,fun m h1 h2=>?_⟩
       by_cases em:m=k
       · rw [em]; exact hd
       · exact r m (by omega) h2
   · cases h
theorem endFrom_none {d:Nat}:∀ {f k:Nat},endFrom kd n d f k=none→∀ m,k≤m→m < k+f→m < n→dp kd (m+1)≠d
 | 0,k,_,m,h1,h2,_=>by omega
 | f+1,k,h,m,h1,h2,h3=>by
   simp only [endFrom] at h
   split at h
   · split at h
     · cases h
     · rename_i hd
       by_cases em:m=k
       · rw [em]; exact hd
       · exact endFrom_none h m (by omega) (by omega) h3
   · omega
theorem dp_step (W:WF kd n) {k:Nat} (hk:k < n):dp kd k≤dp kd (k+1)+1:=by
 by_cases ho:(kd k).op=true
 · rw [dp_op W hk ho]; omega
 · have ho':(kd k).op=false:=by cases q:(kd k).op <;> simp_all
   by_cases hc:(kd k).cl=true
   · rw [dp_cl W hk hc]; exact Nat.le_refl _
   · have hc':(kd k).cl=false:=by cases q:(kd k).cl <;> simp_all
     rw [dp_ot hc' ho']; omega
theorem above (W:WF kd n) {j:Nat} (hj:j < n) (ho:(kd j).op=true):∀ k,j < k→k≤n→(∀ m,j < m→m < k→dp kd (m+1)≠dp kd j)→∀ m,j < m→m≤k→dp kd j < dp kd m
 | 0,h,_,_,m,_,_=>by omega
 | k+1,h,hk,hne,m,h1,h2=>by
   by_cases em:m=k+1
   · subst em
     by_cases e:j=k
     · subst e; rw [dp_op W hj ho]; omega
     · have ih:=above W hj ho k (by omega) (by omega) (fun m a b=>hne m a (by omega)) k (by omega) (Nat.le_refl _)
       have s:=dp_step W (k:=k) (by omega)
       have ne:=hne k (by omega) (by omega)
       omega
   · by_cases e:j=k
     · omega
     · exact above W hj ho k (by omega) (by omega) (fun m a b=>hne m a (by omega)) m h1 (by omega)
theorem end_is (W:WF kd n) {j:Nat} (hj:j < n) (ho:(kd j).op=true):∃ e,endOf kd n j=some e∧j < e∧e < n∧dp kd (e+1)=dp kd j∧∀ m,j < m→m < e→dp kd (m+1)≠dp kd j:=by
 cases h:endOf kd n j with
 | some e =>
   obtain ⟨a,b,c,d⟩:=endFrom_some h
   exact ⟨e,rfl,by omega,b,c,fun m h1 h2=>d m (by omega) h2⟩
 | none =>
   exfalso
   have q:=endFrom_none h
   have a:=above W hj ho n hj (Nat.le_refl _) (fun m h1 h2=>q m (by omega) (by omega) h2) n hj (Nat.le_refl _)
   have z:dp kd n=0:=by unfold dp; rw [W.fin]; rfl
   omega
theorem st_sorted:∀ k,(st kd k).Pairwise (· < ·)∧∀ j∈st kd k,j < k
 | 0=>⟨List.Pairwise.nil,fun j h=>(by simp [st] at h)⟩
 | k+1=>by
   obtain ⟨h1,h2⟩:=st_sorted k
   have base:∀ {s:List Nat},s.Sublist (st kd k)→s.Pairwise (· < ·)∧∀ j∈s,j < k:=fun sl=>⟨h1.sublist sl,fun j h=>h2 j (sl.subset h)⟩
   have key:∀ {s:List Nat},s.Sublist (st kd k)→(if (kd k).op=true then s ++ [k] else s).Pairwise (· < ·)∧∀ j∈(if (kd k).op=true then s ++ [k] else s),j < k+1:=fun {s} sl=>by
    obtain ⟨a,b⟩:=base sl
    split
    · refine ⟨List.pairwise_append.mpr ⟨a,List.pairwise_singleton _ _,fun x hx y hy=>by rw [List.mem_singleton.mp hy]; exact b x hx⟩,fun j hj=>?_⟩
      rcases List.mem_append.mp hj with h | h
      · exact Nat.lt_succ_of_lt (b j h)
      · rw [List.mem_singleton.mp h]; exact Nat.lt_succ_self _
    · exact ⟨a,fun j hj=>Nat.lt_succ_of_lt (b j hj)⟩
   simp only [st]
   by_cases hc:(kd k).cl=true
   · rw [if_pos hc]; exact key (List.dropLast_sublist _)
   · rw [if_neg hc]; exact key (List.Sublist.refl _)
noncomputable def endsAt (kd:Nat→Kd) (n j:Nat):Option Nat:=if (kd j).op=true then endOf kd n j else none
theorem top_end (W:WF kd n) {k j:Nat} (hk:k < n) (hc:(kd k).cl=true) (ht:(st kd k).getLast?=some j):endsAt kd n j=some k∧j < k:=by
 have hl:(st kd k)[(st kd k).length - 1]?=some j:=by rw [← List.getLast?_eq_getElem?]; exact ht
 obtain ⟨a,b,c,d⟩:=st_at W k (by omega) _ j hl
 obtain ⟨e,h1,h2,h3,h4,h5⟩:=end_is W (by omega) b
 refine ⟨?_,a⟩
 unfold endsAt
 rw [if_pos b,h1]
 congr 1
 have hd:=dp_cl W hk hc
 have hk1:dp kd (k+1)=dp kd j:=by rw [c]; unfold dp at hd ⊢; omega
 rcases Nat.lt_or_ge e k with l | l
 · have:=d (e+1) (by omega) (by omega)
   omega
 · rcases Nat.lt_or_ge k e with l2 | l2
   · exact absurd hk1 (h5 k a l2)
   · omega
theorem end_top (W:WF kd n) {k j:Nat} (hk:k < n) (he:endsAt kd n j=some k) (hj:j < n):(kd k).cl=true∧(st kd k).getLast?=some j:=by
 unfold endsAt at he
 by_cases ho:(kd j).op=true
 · rw [if_pos ho] at he
   obtain ⟨e,h1,h2,h3,h4,h5⟩:=end_is W hj ho
   rw [h1] at he
   cases he
   have ab:=above W hj ho k h2 (by omega) fun m x y=>h5 m x y
   have hk0:=ab k h2 (Nat.le_refl _)
   have hc:(kd k).cl=true:=by
    cases q:(kd k).cl with
    | true=>rfl
    | false =>
      exfalso
      by_cases ho':(kd k).op=true
      · rw [dp_op W hk ho'] at h4; omega
      · rw [dp_ot q (by cases r:(kd k).op <;> simp_all)] at h4; omega
   refine ⟨hc,?_⟩
   have hd:=dp_cl W hk hc
   have:=at_st W ho k h2 (by omega) ab
   rw [List.getLast?_eq_getElem?]
   have e:(st kd k).length - 1=dp kd j:=by unfold dp at hd h4 ⊢; omega
   rw [e]; exact this
 · rw [if_neg ho] at he; cases he
end
end K5
namespace VT
open PySem PySem.Spec PyProof.Rows L2
structure Deep (K:PySem.W.Frag) (H H':Hp) (Ox:List Addr) (us:List T) (p:Addr) (ls:List Addr):Prop where
 same:Same H H'
 tup:H' p=some (.tup (ls.map V.ref))
 nd:ls.Nodup
 new:∀ a∈ls,H a=none
 rts:Paired (fun a t=>Root K H' (ls ++ Ox) a t) ls us
noncomputable def spD (K:PySem.W.Frag) (n:Nat) (G:List T→(List T→Prop)→Prop):Sp:=fun vs H Q _=>∃ ts Ox q,(∀ a∈Ox,H a≠none)∧AtL K H Ox ts vs∧ts.length=n∧G ts q ∧
 ∀ us,q us→∀ p ls H',Deep K H H' Ox us p ls→Q (.ref p) H'
structure FinD (K:PySem.W.Frag) (Z:Zc) (tm:List (T×V)) (d:VEn) (dp:List T→Prop) (D:Ends):Prop where
 fin:Fin K Z tm d D
 dp:∀ us,dp us→∀ p ls H',Deep K Z.H0 H' Z.Ox us p ls→D.rt (.ref p) H'
noncomputable abbrev FSD:=VEn→(List T→Prop)→En→Prop
noncomputable def lSD (X:Cx) (Z:Zc) (tm:List (T×V)) (g:FSD):TS:=fun D σ H=>∃ ρ O d dp,EnvAt X.K Z tm O ρ σ H∧g d dp ρ∧FinD X.K Z tm d dp D
noncomputable def VSsD (X:Cx) (Z:Zc) (st:List Stmt) (g:FSD):Prop:=Bx fun tm=>PSs X st (lSD X Z tm g)
noncomputable instance {X:Cx} {Z:Zc} {st:List Stmt} {g:FSD}:CoeFun (VSsD X Z st g) fun _=>∀ tm,PSs X st (lSD X Z tm g):=⟨fun h=>Bx.h h⟩
noncomputable def ownT (ρ:En):List Nat→Option (List T)
 | []=>some []
 | i :: is=>match ρ[i]?,ownT ρ is with
   | some (some (t,true)),some ts=>some (t :: ts)
   | _,_=>none
section
variable {X:Cx} {Z:Zc} {st:Stmt} {rest:List Stmt} {g:FS} {u:FSD} {pos:Pos}
noncomputable def gSeqD (g:FS) (u:FSD):FSD:=fun d dp ρ=>g { d with nx:=u d dp } ρ
theorem vsd_cons (h1:VS X Z st g) (h2:VSsD X Z rest u):VSsD X Z (st :: rest) (gSeqD g u):=.mk fun tm=>PSs.weak' (pss_cons (h1 tm) (h2 tm)) fun D σ H ⟨ρ,O,d,dp,I,h,F⟩ =>
 ⟨ρ,O,{ d with nx:=u d dp },I,h,⟨fun O' ρ' σ' H' I' h'=>⟨ρ',O',d,dp,I',h',F⟩,F.fin.rt,F.fin.bk,F.fin.ct⟩⟩
noncomputable def NamesAt (X:Cx):List Expr→List Nat→Prop
 | [],is=>is=[]
 | e :: es,is=>∃ x p i js,e = .Name x p∧is=i :: js∧X.N[i]?=some x∧Vis X.env.scope x∧(x == ("__debug__" : Str))=false∧(x == ("__classdict__" : Str))=false∧starEach (e :: es) X.env=(false,eval e X.env) :: starEach es X.env∧NamesAt X es js
noncomputable def tVars (is:List Nat):TA:=fun σ H Q=>∃ vs,Paired (fun (i:Nat) (v:V)=>σ[i]?=some (some v)) is vs∧Q vs H
theorem pa_vars:∀ {es:List Expr} {is:List Nat},NamesAt X es is→PA X es (tVars is)
 | [],is,h=>fun pos pins s σ H Q I ⟨vs,hv,q⟩=>by
   have e:is=[]:=h
   subst e
   cases hv
   exact pa_nil pos pins s σ H Q I q
 | e :: es,is,h=>by
   obtain ⟨x,p,i,js,rfl,rfl,h1,h2,h3,h4,h5,h6⟩:=h
   exact PA.weak (pa_cons (pe_var h1 h2 h3 h4) (pa_vars h6) h5) fun σ H Q ⟨vs,hv,q⟩=>by
    cases hv with
    | cons r t=>exact ⟨_,r,_,t,q⟩
theorem own_refs {K:PySem.W.Frag} {tm:List (T×V)} {O:List (Option Addr)} {ρ:En} {σ:St} {H:Hp} (I:EnvAt K Z tm O ρ σ H):∀ {is:List Nat} {ts:List T},ownT ρ is=some ts →
  ∃ ls:List Addr,Paired (fun (i:Nat) (v:V)=>σ[i]?=some (some v)) is (ls.map V.ref)∧Paired (fun (i:Nat) (a:Addr)=>O[i]?=some (some a)) is ls∧Paired (fun a t=>Root K H (av Z O) a t) ls ts
 | [],ts,h=>by cases h; exact ⟨[],.nil,.nil,.nil⟩
 | i :: is,ts,h=>by
   simp only [ownT] at h
   split at h
   · rename_i t us e1 e2
     cases h
     obtain ⟨a,h1,h2,h3⟩:=I.root e1
     obtain ⟨ls,g1,g2,g3⟩:=own_refs I e2
     exact ⟨a :: ls,.cons h2 g1,.cons h1 g2,.cons h3 g3⟩
   · cases h
theorem paired_of_mem {α β:Type} {R:α→β→Prop} {l:List α} {m:List β} (h:Paired R l m) {b:β} (hb:b∈m):∃ a∈l,R a b:=by
 induction h with
 | nil=>cases hb
 | cons r t ih =>
   rcases List.mem_cons.mp hb with e | hb
   · subst e; exact ⟨_,List.mem_cons_self,r⟩
   · obtain ⟨a,h1,h2⟩:=ih hb; exact ⟨a,List.mem_cons_of_mem _ h1,h2⟩
theorem refs_nodup {K:PySem.W.Frag} {tm:List (T×V)} {O:List (Option Addr)} {ρ:En} {σ:St} {H:Hp} (I:EnvAt K Z tm O ρ σ H) {is:List Nat} {ls:List Addr} (nd:is.Nodup) (h:Paired (fun (i:Nat) (a:Addr)=>O[i]?=some (some a)) is ls):ls.Nodup:=by
 induction h with
 | nil=>exact List.nodup_nil
 | cons r t ih =>
   rw [List.nodup_cons] at nd ⊢
   refine ⟨fun m=>?_,ih nd.2⟩
   obtain ⟨j,hj,e⟩:=paired_of_mem t m
   exact nd.1 (by rw [inj_O I r e]; exact hj)
noncomputable def gRetD (is:List Nat):FSD:=fun _ dp ρ=>match ownT ρ is with
 | some ts=>dp ts
 | none=>False
theorem vsd_ret {es:List Expr} {is:List Nat} {x1} {p:Pos} (hP:Z.P=[]) (hn:NamesAt X es is) (nd:is.Nodup) (hl:is.length≤100):VSsD X Z [.Return (some (.Tuple es x1 p)) pos] (gRetD is):=.mk fun tm =>
 pss_one (PS.weak (ps_ret (pe_tup (pa_vars hn))) fun D σ H ⟨ρ,O,d,dp,I,h,F⟩=>by
  unfold gRetD at h
  split at h
  · rename_i ts e
    obtain ⟨ls,g1,g2,g3⟩:=own_refs I e
    refine ⟨ls.map V.ref,g1,?_,fun q hq=>F.dp ts h q ls _ ⟨?_,upd_same,refs_nodup I nd g2,fun a ha=>?_,?_⟩⟩
    · rw [List.length_map,← Paired.length g2,sizeLine_eq]; omega
    · intro b o eb
      have:=I.keep b o eb (by rw [hP]; exact fun z=>nomatch z)
      rw [upd_ne (ne_of_none this hq)]; exact this
    · obtain ⟨i,_,e⟩:=paired_of_mem g2 ha
      rcases (I.own a (mem_roots.mpr (List.mem_of_getElem? e))).1 with z | z
      · rw [hP] at z; exact nomatch z
      · exact z
    · refine Paired.mapP g3 fun a t r=>(r.same (same_upd hq)).fewer fun b hb=>?_
      rcases List.mem_append.mp hb with z | z
      · obtain ⟨i,_,e⟩:=paired_of_mem g2 z
        exact List.mem_append_left _ (mem_roots.mpr (List.mem_of_getElem? e))
      · exact List.mem_append_right _ z
  · exact h.elim)
end
section
variable {P:Program} {w:World} {K:PySem.W.Frag} {mg:Str→Option Value} {base:Heap}
theorem roots_none (n:Nat):roots (List.replicate n none)=[]:=by
 unfold roots
 induction n with
 | zero=>rfl
 | succ n ih=>rw [List.replicate_succ,List.filterMap_cons]; exact ih
theorem env_views {N:List Str} {H:Hp} {Ox:List Addr} {ts:List T} {vs:List V} (hN:ts.length≤N.length) (ox:∀ a∈Ox,H a≠none) (h:AtL K H Ox ts vs) :
  EnvAt K ⟨H,[],Ox⟩ [] (List.replicate N.length none) (ts.map (fun t=>some (t,false)) ++ List.replicate (N.length - ts.length) none) (start N vs) H:=by
 have hl:=h.length
 have ea:av ⟨H,[],Ox⟩ (List.replicate N.length none)=Ox:=by unfold av; rw [roots_none]; rfl
 refine ⟨?_,by simp; omega,fun i e he=>?_,by rw [roots_none]; exact List.nodup_nil,fun a ha=>?_,fun p hp=>(nomatch hp),ox,fun b o e _=>e,fun p hp=>(nomatch hp)⟩
 · unfold L2.start; simp [hl]
 · rw [ea]
   by_cases hi:i < ts.length
   · rw [List.getElem?_append_left (by simpa using hi),List.getElem?_map] at he
     have e1:ts[i]?=some ts[i]:=by simp
     rw [e1] at he
     cases he
     obtain ⟨v,h1,h2⟩:=h.get e1
     refine ⟨none,some v,by rw [List.getElem?_replicate,if_pos (by omega)],?_,rfl,v,rfl,h2⟩
     unfold L2.start
     rw [List.getElem?_append_left (by rw [List.length_map]; omega),List.getElem?_map,h1]
     rfl
   · rw [List.getElem?_append_right (by simpa using hi),List.getElem?_replicate] at he
     split at he
     · rename_i hlt
       cases he
       rw [List.length_map] at hlt
       refine ⟨none,none,by rw [List.getElem?_replicate,if_pos (by omega)],?_,rfl⟩
       unfold L2.start
       rw [List.getElem?_append_right (by rw [List.length_map]; omega),List.getElem?_replicate,List.length_map,if_pos (by omega)]
     · cases he
 · rw [roots_none] at ha; exact nomatch ha
theorem fnD {x qual:Str} {st:Stmt} {f:Addr} {fd:FuncData} {N ps:List Str} {k n:Nat} {G:List T→(List T→Prop)→Prop} (F:Fun K x qual st f fd) (S:FnScope N ps (defScope st)) (hn:n=ps.length) (hN:n≤N.length)
  (hbody:∀ (cdv:Value) (A:Around) (outer:List Env) (s:Shared) (H:Hp) (E:XK) (Ox:List Addr),Room k (A.deeper (envOfC qual (defScope st) s.heap.objs.size f cdv))→∀ ts q,G ts q →
    ∃ g,VSsD (cxOf CX0 P w K mg base N qual (defScope st) f cdv A outer s H E).nox ⟨H,[],Ox⟩ (defBody st) g∧(ts.length=n→g { nx:=fun _=>False,rt:=fun _ _=>False } q (ts.map (fun t=>some (t,false)) ++ List.replicate (N.length - ts.length) none))) :
  FnOk P w K mg base CX0 (k+1) f fd ps (spD K n G):=by
 refine F.ok S (fun vs H Q E h=>?_) (fun cdv A outer s H vs Q E hr h=>?_)
 · obtain ⟨ts,Ox,q,_,ha,hl,_⟩:=h
   rw [ha.length,hl,hn]
 · obtain ⟨ts,Ox,q,ox,ha,hl,hG,kk⟩:=h
   obtain ⟨g,hg,hq⟩:=hbody cdv A outer s H E Ox hr ts q hG
   exact ⟨_,hg [],_,_,_,q,env_views (by omega) ox ha,hq hl,⟨⟨fun _ _ _ _ _ h=>h.elim,fun _ _ _ _ _ _ _ h=>h.elim,fun _ _ _ _ _ h=>h.elim,fun _ _ _ _ _ h=>h.elim⟩,fun us hu p ls H' D=>kk us hu p ls H' D⟩⟩
end
end VT
namespace VT
open PySem PySem.Spec PyProof.Rows L2
section
variable {X:Cx} {Z:Zc} {k n:Nat} {f:Addr} {fd:FuncData} {ps:List Str} {G:List T→(List T→Prop)→Prop} {x:Str} {p pos:Pos} {e:Expr} {es:List Expr} {g:FA}
noncomputable def lD (X:Cx) (Z:Zc) (tm:List (T×V)) (f:En→(List T→Prop)→Prop):TE:=fun σ H Q=>∃ ρ O q,EnvAt X.K Z tm O ρ σ H∧f ρ q∧∀ us,q us→∀ p ls H',Deep X.K H H' (av Z O) us p ls→Q (.ref p) H'
noncomputable def VD (X:Cx) (Z:Zc) (e:Expr) (f:En→(List T→Prop)→Prop):Prop:=Bx fun tm=>PE X e (lD X Z tm f)
noncomputable instance {X:Cx} {Z:Zc} {e:Expr} {f:En→(List T→Prop)→Prop}:CoeFun (VD X Z e f) fun _=>∀ tm,PE X e (lD X Z tm f):=⟨fun h=>Bx.h h⟩
noncomputable def fCallD (n:Nat) (g:FA) (G:List T→(List T→Prop)→Prop):En→(List T→Prop)→Prop:=fun ρ Q=>g ρ fun ts=>ts.length=n∧G ts Q
theorem vd_call (F:FnOk X.prog X.w X.K X.mg X.base CX0 k f fd ps (spD X.K n G)) (hr:Room k X.A) (hg:Gl X x) (hm:X.mg x=some (.ref f)) (hk:PySem.W.keepIn X.K (.ref f)=true) (hb:Binds X.K fd ps []) (ha:VA X Z (e :: es) g)
  (hdb:(x == ("__debug__" : Str))=false:=by decide) (he:starEach (e :: es) X.env=(false,eval e X.env) :: starEach es X.env:=by rfl) (hpl:(backTo pos (starEach es X.env)).any (·.1)=false:=by rfl) :
  VD X Z (.Call (.Name x p) (e :: es) [] pos) (fCallD n g G):=.mk fun tm=>PE.weak (pe_call F hr hg hm hk hb .nil pass0 (ha tm) hdb he hpl) fun σ H Q ⟨ρ,O,q,I,hf,k⟩ =>
 ⟨ρ,O,_,I,hf,fun ts hts vs H1 s1 a1=>by
   show spD X.K n G (vs ++ []) H1 Q E0
   rw [List.append_nil]
   refine ⟨ts,av Z O,q,(I.same s1).avH,a1,hts.1,hts.2,fun us hu p ls H' D=>k us hu p ls H' ⟨s1.trans D.same,D.tup,D.nd,fun a ha=>?_,D.rts⟩⟩
   cases z:H a with
   | none=>rfl
   | some o=>have:=D.new a ha; rw [s1 _ _ z] at this; cases this⟩
theorem Deep.at {K:PySem.W.Frag} {tm:List (T×V)} {O:List (Option Addr)} {ρ:En} {σ:St} {H H':Hp} {us:List T} {p:Addr} {ls:List Addr} (I:EnvAt K Z tm O ρ σ H) (D:Deep K H H' (av Z O) us p ls):At K H' (av Z O) (.tup us) (.ref p):=by
 refine at_tup (SqT.of D.tup) (AtL.iff.mpr ?_)
 have key:∀ {ls':List Addr} {us':List T},(∀ a∈ls',a∈ls)→Paired (fun a t=>Root K H' (ls ++ av Z O) a t) ls' us'→Paired (fun v t=>At K H' (av Z O) t v) (ls'.map V.ref) us':=by
  intro ls' us' sub h
  induction h with
  | nil=>exact .nil
  | cons r t ih =>
    refine .cons ((r.fewer fun b hb=>List.mem_append_right _ hb).at fun z=>?_) (ih fun a ha=>sub a (List.mem_cons_of_mem _ ha))
    exact I.avH _ z (D.new _ (sub _ List.mem_cons_self))
 exact key (fun _ h=>h) D.rts
noncomputable def fTupD (f:En→(List T→Prop)→Prop):FP:=fun ρ Q=>f ρ fun us=>Q (.vw (.tup us))
theorem VD.vp {f:En→(List T→Prop)→Prop} (h:VD X Z e f):VP X Z e (fTupD f):=.mk fun tm=>PE.weak (h tm) fun σ H Q ⟨ρ,O,q,I,hf,k⟩ =>
 ⟨ρ,O,_,I,hf,fun us hu p ls H' D=>k _ hu _ H' D.same ⟨I.same D.same,D.at I⟩⟩
end
theorem EnvAt.scrap {K:PySem.W.Frag} {Z:Zc} {tm:List (T×V)} {O:List (Option Addr)} {ρ:En} {σ:St} {H:Hp} (I:EnvAt K Z tm O ρ σ H) {i:Nat} (s:Option V) (hp:NotPar Z i):EnvAt K Z tm (O.set i none) (ρ.set i none) (σ.set i s) H:=by
 have J:=I.forget hp
 refine ⟨by simp [I.lσ],J.lO,fun j e h=>?_,J.nd,J.own,J.par,J.ox,J.keep,J.tmp⟩
 obtain ⟨o,w,h1,h2,h3⟩:=J.sl j e h
 rcases get_set h with ⟨rfl,rfl,hl⟩ | ⟨ne,h'⟩
 · exact ⟨o,s,h1,by rw [List.getElem?_set_self (by rw [I.lσ]; exact hl)],h3⟩
 · exact ⟨o,w,h1,by rw [List.getElem?_set_ne (Ne.symm ne)]; exact h2,h3⟩
section
variable {X:Cx} {Z:Zc}
theorem set_get_self:∀ (l:List (Option V)) (j:Nat),l=l.set j ((l[j]?).getD none)
 | [],j=>rfl
 | a :: l,0=>rfl
 | a :: l,j+1=>by
   rw [List.set_cons_succ,List.getElem?_cons_succ,← set_get_self l j]
end
end VT
namespace VT
open PySem PySem.Spec PyProof.Rows L2
section
variable {X:Cx} {Z:Zc}
end
end VT
namespace K5
open PySem L2 VT Gen
noncomputable def wordOf:Rw→Str
 | .df _ _=>"def" | .give _=>"give" | .put _ _=>"put" | .dow _ _ _ _=>"do" | .new _=>"new" | .get _ _ _=>"get" | .set _ _ _=>"set" | .call _ _ _=>"call" | .fail _=>"fail"
 | .ifr _=>"if" | .els=>"else" | .whl _=>"while" | .fin=>"end" | .skip=>"skip"
theorem rowT_word (r:Rw):∃ l,rowT r = .tup (.str (wordOf r) :: l):=by cases r <;> exact ⟨_,rfl⟩
noncomputable def kindR:Rw→Kd
 | .df _ _=>⟨true,false,false,true⟩
 | .give _=>⟨false,true,false,false⟩
 | .ifr _=>⟨true,false,false,false⟩
 | .els=>⟨false,false,true,false⟩
 | .whl _=>⟨true,false,false,false⟩
 | .fin=>⟨false,true,false,false⟩
 | _=>⟨false,false,false,false⟩
theorem w_df (r:Rw):decide (wordOf r="def")=(kindR r).df:=by cases r <;> first | rfl | decide +kernel
theorem w_el (r:Rw):decide (wordOf r="else")=(kindR r).el:=by cases r <;> first | rfl | decide +kernel
theorem w_cl (r:Rw):inT (.str (wordOf r)) [.str "give",.str "end"]=(kindR r).cl:=by cases r <;> first | rfl | decide +kernel
theorem w_op (r:Rw):inT (.str (wordOf r)) [.str "def",.str "if",.str "while"]=(kindR r).op:=by cases r <;> first | rfl | decide +kernel
noncomputable def kdR (rs:List Rw) (k:Nat):Kd:=match rs[k]? with
 | some r=>kindR r
 | none=>⟨false,false,false,false⟩
theorem kdR_at {rs:List Rw} {k:Nat} {r:Rw} (h:rs[k]?=some r):kdR rs k=kindR r:=by unfold kdR; rw [h]
noncomputable def WFR (rs:List Rw):Prop:=WF (kdR rs) rs.length
noncomputable def oT:Option Nat→T
 | none=>.non
 | some k=>.int (k:Int)
noncomputable def tab (f:Nat→Option Nat) (n k:Nat):List T:=(List.range n).map fun i=>if i < k then oT (f i) else .non
noncomputable def tabE (e:Nat→Option Nat) (n k:Nat):List T:=(List.range n).map fun j=>match e j with
 | some m=>if m < k then .int (m:Int) else .non
 | none=>.non
theorem tab_len (f n k):(tab f n k).length=n:=by simp [tab]
theorem tabE_len (f n k):(tabE f n k).length=n:=by simp [tabE]
theorem tab_zero (f n):tab f n 0=List.replicate n .non:=by
 unfold tab
 rw [List.eq_replicate_iff]
 exact ⟨by simp,fun x hx=>by simp at hx; exact hx.2.symm⟩
theorem tabE_zero (f n):tabE f n 0=List.replicate n .non:=by
 unfold tabE
 rw [List.eq_replicate_iff]
 refine ⟨by simp,fun x hx=>?_⟩
 obtain ⟨j,_,rfl⟩:=List.mem_map.mp hx
 split <;> simp
theorem tab_set {f:Nat→Option Nat} {n k:Nat}:(tab f n k).set k (oT (f k))=tab f n (k+1):=by
 refine List.ext_getElem? fun i=>?_
 rw [List.getElem?_set,tab_len]
 unfold tab
 rw [List.getElem?_map,List.getElem?_map]
 by_cases hi:i < n
 · rw [List.getElem?_range hi]
   by_cases e:k=i
   · subst e; rw [if_pos rfl,if_pos hi]; simp
   · rw [if_neg e]
     simp only [Option.map_some]
     by_cases l:i < k
     · rw [if_pos l,if_pos (by omega)]
     · rw [if_neg l,if_neg (by omega)]
 · rw [List.getElem?_eq_none (by simp; omega)]
   split
   · rw [if_neg (by omega)]; rfl
   · rfl
theorem tab_skip {f:Nat→Option Nat} {n k:Nat} (h:f k=none):tab f n k=tab f n (k+1):=by
 unfold tab
 refine List.map_congr_left fun i _=>?_
 by_cases e:i=k
 · subst e; rw [if_neg (Nat.lt_irrefl _),if_pos (Nat.lt_succ_self _),h]; rfl
 · by_cases l:i < k
   · rw [if_pos l,if_pos (by omega)]
   · rw [if_neg l,if_neg (by omega)]
theorem tab_full (f n):tab f n n=(List.range n).map fun i=>oT (f i):=by
 unfold tab
 exact List.map_congr_left fun i hi=>by rw [if_pos (List.mem_range.mp hi)]
theorem tabE_set {e:Nat→Option Nat} {n k j:Nat} (h:e j=some k) (u:∀ i,i < n→e i=some k→i=j):(tabE e n k).set j (.int (k:Int))=tabE e n (k+1):=by
 refine List.ext_getElem? fun i=>?_
 rw [List.getElem?_set,tabE_len]
 unfold tabE
 rw [List.getElem?_map,List.getElem?_map]
 by_cases hi:i < n
 · rw [List.getElem?_range hi]
   by_cases q:j=i
   · subst q; rw [if_pos rfl,if_pos hi]; simp [h]
   · rw [if_neg q]
     simp only [Option.map_some]
     cases r:e i with
     | none=>rfl
     | some m =>
       have:m≠k:=fun z=>q (u i hi (by rw [r,z])).symm
       simp only
       by_cases l:m < k
       · rw [if_pos l,if_pos (by omega)]
       · rw [if_neg l,if_neg (by omega)]
 · rw [List.getElem?_eq_none (by simp; omega)]
   split
   · rw [if_neg (by omega)]; rfl
   · rfl
theorem tabE_skip {e:Nat→Option Nat} {n k:Nat} (u:∀ i,i < n→e i≠some k):tabE e n k=tabE e n (k+1):=by
 unfold tabE
 refine List.map_congr_left fun i hi=>?_
 cases r:e i with
 | none=>rfl
 | some m =>
   have:m≠k:=fun z=>u i (List.mem_range.mp hi) (by rw [r,z])
   simp only
   by_cases l:m < k
   · rw [if_pos l,if_pos (by omega)]
   · rw [if_neg l,if_neg (by omega)]
theorem tabE_full {e:Nat→Option Nat} {n:Nat} (h:∀ j m,j < n→e j=some m→m < n):tabE e n n=(List.range n).map fun i=>oT (e i):=by
 unfold tabE
 refine List.map_congr_left fun i hi=>?_
 cases r:e i with
 | none=>rfl
 | some m=>simp only; rw [if_pos (h i m (List.mem_range.mp hi) r)]; rfl
section
variable (kd:Nat→Kd)
noncomputable def hdF (k:Nat):Option Nat:=(st kd k).getLast?
noncomputable def hmF (k:Nat):Option Nat:=if (kd k).df=true then some k else (st kd k).head?
noncomputable def elF (n:Nat):Nat→List T
 | 0=>List.replicate n .non
 | k+1=>match (kd k).el,hdF kd k with
   | true,some h=>(elF n k).set h (.int (k:Int))
   | _,_=>elF n k
end
theorem elF_len (kd n):∀ k,(elF kd n k).length=n
 | 0=>by simp [elF]
 | k+1=>by
   simp only [elF]
   split
   · rw [List.length_set]; exact elF_len kd n k
   · exact elF_len kd n k
noncomputable def shapeT (rs:List Rw):List T:=[.lst ((List.range rs.length).map fun i=>oT (hdF (kdR rs) i)),.lst ((List.range rs.length).map fun i=>oT (endsAt (kdR rs) rs.length i)),.lst (elF (kdR rs) rs.length rs.length),.lst ((List.range rs.length).map fun i=>oT (hmF (kdR rs) i))]
theorem enum_map (rs:List Rw):enumT (rs.map rowT)=(rs.zipIdx).map fun p=>.tup [.int (p.2:Int),rowT p.1]:=by
 unfold enumT
 refine List.ext_getElem? fun i=>?_
 rw [List.getElem?_mapIdx,List.getElem?_map,List.getElem?_map,List.getElem?_zipIdx]
 cases rs[i]? <;> simp
end K5
namespace K5
open PySem L2 VT Gen
noncomputable def dr:Nat→List Rw→Option Nat
 | d,[]=>some d
 | d,r :: rs=>if (kindR r).cl=true then (if d=0 then none else dr (d - 1) rs) else if (kindR r).el=true then (if d=0 then none else dr d rs) else if (kindR r).op=true then dr (d+1) rs else dr d rs
theorem dr_app:∀ (a b:List Rw) (d:Nat),dr d (a ++ b)=(dr d a).bind fun e=>dr e b
 | [],b,d=>rfl
 | r :: a,b,d=>by
   simp only [List.cons_append,dr]
   split
   · split
     · rfl
     · exact dr_app a b _
   · split
     · split
       · rfl
       · exact dr_app a b _
     · split
       · exact dr_app a b _
       · exact dr_app a b _
theorem len_st (rs:List Rw) {k:Nat} {r:Rw} (h:rs[k]?=some r):(st (kdR rs) (k+1)).length=(if (kindR r).cl=true then (st (kdR rs) k).length - 1 else if (kindR r).op=true then (st (kdR rs) k).length+1 else (st (kdR rs) k).length):=by
 have hkd:=kdR_at h
 by_cases hc:(kindR r).cl=true
 · have ho:(kindR r).op=false:=by cases r <;> first | rfl | (cases hc)
   rw [if_pos hc,st_cl (by rw [hkd]; exact hc) (by rw [hkd]; exact ho),List.length_dropLast]
 · have hc':(kindR r).cl=false:=by cases q:(kindR r).cl <;> simp_all
   rw [if_neg hc]
   by_cases ho:(kindR r).op=true
   · rw [if_pos ho,st_op (by rw [hkd]; exact ho) (by rw [hkd]; exact hc')]; simp
   · rw [if_neg ho,st_ot (by rw [hkd]; exact hc') (by rw [hkd]; cases q:(kindR r).op <;> simp_all)]
theorem dr_take {rs:List Rw} (h:dr 0 rs=some 0):∀ k,k≤rs.length→dr 0 (rs.take k)=some (st (kdR rs) k).length
 | 0,_=>rfl
 | k+1,hk=>by
   have ih:=dr_take h k (by omega)
   have e:rs[k]?=some rs[k]:=by simp
   have et:rs.take (k+1)=rs.take k ++ [rs[k]]:=by rw [List.take_succ,e]; rfl
   have hs:(dr 0 (rs.take (k+1))).isSome=true:=by
    rw [← List.take_append_drop (k+1) rs,dr_app] at h
    cases q:dr 0 (rs.take (k+1)) with
    | some _=>rfl
    | none=>rw [q] at h; cases h
   rw [et,dr_app,ih,Option.bind_some] at hs ⊢
   rw [len_st rs e]
   simp only [dr] at hs ⊢
   by_cases hc:(kindR rs[k]).cl=true
   · rw [if_pos hc,if_pos hc] at *
     by_cases z:(st (kdR rs) k).length=0
     · rw [if_pos z] at hs; cases hs
     · rw [if_neg z]
   · rw [if_neg hc,if_neg hc] at *
     by_cases hl:(kindR rs[k]).el=true
     · have ho:¬ (kindR rs[k]).op=true:=by
        generalize rs[k]=r at hl
        cases r <;> first | (cases hl; done) | (intro z; cases z)
       rw [if_pos hl,if_neg ho] at *
       by_cases z:(st (kdR rs) k).length=0
       · rw [if_pos z] at hs; cases hs
       · rw [if_neg z]
     · rw [if_neg hl] at *
       split <;> rfl
theorem wf_of {rs:List Rw} (h:dr 0 rs=some 0):WFR rs:=by
 have at':∀ {k:Nat},k < rs.length→∃ r,rs[k]?=some r∧kdR rs k=kindR r:=fun {k} hk=>⟨rs[k],by simp,kdR_at (by simp)⟩
 have step:∀ {k:Nat} {r:Rw},rs[k]?=some r→(kindR r).cl=true∨(kindR r).el=true→st (kdR rs) k≠[]:=fun {k r} hr hcl z=>by
  have hk:k < rs.length:=(List.getElem?_eq_some_iff.mp hr).1
  have h1:=dr_take h k (by omega)
  have h2:=dr_take h (k+1) (by omega)
  have et:rs.take (k+1)=rs.take k ++ [r]:=by rw [List.take_succ,hr]; rfl
  rw [et,dr_app,h1,Option.bind_some,z] at h2
  simp only [dr,List.length_nil] at h2
  rcases hcl with q | q
  · rw [if_pos q,if_pos True.intro] at h2; cases h2
  · by_cases q2:(kindR r).cl=true
    · rw [if_pos q2,if_pos True.intro] at h2; cases h2
    · rw [if_neg q2,if_pos q,if_pos True.intro] at h2; cases h2
 refine ⟨fun k hk ho=>?_,fun k hk hc=>?_,fun k hk hc=>?_,fun k hk hc=>?_,fun k hk hc=>?_,?_⟩
 · obtain ⟨r,hr,e⟩:=at' hk
   rw [e] at ho ⊢
   cases r <;> first | rfl | (cases ho)
 · obtain ⟨r,hr,e⟩:=at' hk
   exact step hr (.inl (by rw [← e]; exact hc))
 · obtain ⟨r,hr,e⟩:=at' hk
   exact step hr (.inr (by rw [← e]; exact hc))
 · obtain ⟨r,hr,e⟩:=at' hk
   rw [e] at hc ⊢
   cases r <;> first | exact ⟨rfl,rfl⟩ | (cases hc)
 · obtain ⟨r,hr,e⟩:=at' hk
   rw [e] at hc ⊢
   cases r <;> first | rfl | (cases hc)
 · have:=dr_take h rs.length (Nat.le_refl _)
   rw [List.take_length,h] at this
   exact List.length_eq_zero_iff.mp (Option.some.inj this).symm
theorem simple_kind {ys:List Str} {pl:Plan} {r:Rw} (h:SimpleRw ys pl r):(kindR r).cl=false∧(kindR r).el=false∧(kindR r).op=false:=by
 cases r <;> first | exact ⟨rfl,rfl,rfl⟩ | exact h.elim
theorem dr_lay {ys:List Str} {pl:Plan} {sts new sts'} (h:LayRel ys pl sts new sts') {d:Nat} (hd:0 < d):dr (d+sts.length) new=some (d+sts'.length):=by
 rcases h with ⟨o,_,rfl,rfl⟩ | ⟨o,_,rfl,rfl⟩ | ⟨y,_,rfl,rfl⟩ | ⟨s0,rfl,rfl,rfl⟩ | ⟨s0,x,rfl,rfl,rfl⟩ | ⟨r,hs,rfl,rfl⟩
 · simp [dr,kindR]; omega
 · simp [dr,kindR]; omega
 · simp [dr,kindR]; omega
 · simp [dr,kindR]
 · simp [dr,kindR]
 · obtain ⟨a,b,c⟩:=simple_kind hs
   simp [dr,a,b,c]
theorem dr_body {ys:List Str} {later:Plan} {sts:List Str} {body:List Rw} (h:Body ys later sts body) {d:Nat} (hd:0 < d):dr d body=some (d+sts.length):=by
 induction h with
 | nil=>rfl
 | step _ hl ih=>rw [dr_app,ih,Option.bind_some]; exact dr_lay hl hd
end K5
namespace L2
open PySem PySem.Spec PyProof.Rows
end L2
namespace L2
open PySem PySem.Spec PyProof.Rows
section
variable (P:Program) (w:World)
end
section
variable {P:Program} {w:World} {H H':Hp} {h h':Heap} {a:Addr} {o:HO}
end
section
variable {P:Program} {w:World} {H:Hp} {h h':Heap} {x e:Addr} {o':HO}
end
section
variable {fs fs' ex ex':List Addr} {H H1 H2:Hp} {h h1 h2 h':Heap} {a x e:Addr} {o:HO}
end
end L2
namespace L2
open PySem PySem.Spec PyProof.Rows
section
variable {X:Cx} {pins:List (Addr×Obj)} {σ:List (Option V)} {H H':Hp} {s:Shared} {h':Heap}
end
end L2
namespace L2
open PySem PySem.Spec PyProof.Rows
section
variable {X:Cx}
variable {a b:Expr} {ta tb:TE} {pos:Pos}
variable {tA tB':TT} {rest:List Expr}
end
end L2
namespace L2
open PySem PySem.Spec PyProof.Rows
section
variable {X:Cx} {pins:List (Addr×Obj)} {σ:St} {H:Hp} {s:Shared} {a:Addr} {xs ys:List V}
end
section
variable {X:Cx} {pins:List (Addr×Obj)} {σ:St} {H:Hp} {s:Shared} {E:Value→Shared→Prop}
end
section
variable {X:Cx} {st:Stmt} {rest:List Stmt} {t u:TS} {e:Expr} {te:TE} {pos:Pos}
end
section
variable {X:Cx} {pos:Pos}
end
section
variable {X:Cx} {pos:Pos}
end
end L2
namespace L2
open PySem PySem.Spec PyProof.Rows
section
variable {X:Cx} {tg:Expr}
end
end L2
namespace L2
open PySem PySem.Spec PyProof.Rows
section
variable {X:Cx} {a b c:Expr} {ta tb tc:TE} {pos:Pos}
end
section
variable {X:Cx} {a b c:Expr} {ta tb tc:TE} {pos:Pos}
end
end L2
namespace L2
open PySem PySem.Spec PyProof.Rows
section
variable {prog:Program} {w:World} {A:Around} {E:Value→Shared→Prop} {s:Shared} {K:PySem.W.Frag} {x dx C f:Addr} {mA:Str→Option Value} {name:Str} {v:Value}
end
section
variable {P:Program} {w:World} {H H':Hp} {h h':Heap} {a C dx:Addr} {fs fs':List (Str×V)}
end
section
variable {X:Cx} {pins:List (Addr×Obj)} {σ:St} {H:Hp} {s:Shared} {a C dx:Addr} {fs:List (Str×V)} {f:Str} {v:V} {A:Around} {E:Value→Shared→Prop}
end
section
variable {X:Cx} {o e value:Expr} {f:Str} {pos pos' tpos:Pos} {ta tv:TE}
end
section
variable {X:Cx} {pins:List (Addr×Obj)} {σ:St} {H:Hp} {s:Shared} {A:Around} {E:Value→Shared→Prop} {Q:Value→Shared→Prop} {c:Value} {b:Bool}
end
end L2
namespace L2
open PySem PySem.Spec PyProof.Rows
section
variable {X:Cx} {e:Expr} {es:List Expr} {te:TE} {t:TA} {pos:Pos}
end
section
variable {X:Cx} {pins:List (Addr×Obj)} {σ:St} {H:Hp} {s s':Shared}
end
section
variable {X:Cx} {CX:CXT} {k:Nat} {f C:Addr} {fd:FuncData} {ps:List Str} {sp:Sp} {dvs:List V} {ds:List Value} {E:XK} {x m:Str} {p pos apos:Pos} {e o:Expr} {es:List Expr} {ta:TE} {t:TA}
end
section
variable {X:Cx} {CX:CXT} {k:Nat} {f C:Addr} {fd:FuncData} {ps ks:List Str} {sp:Sp} {E:XK} {x m:Str} {p pos apos kpos:Pos} {e o:Expr} {es:List Expr} {kws:List Keyword} {te ta:TE} {t tk:TA} {nm:Option Str}
variable {g:List Value→List Value→List Value} {gV:List V→List V→List V}
end
end L2
namespace L2
open PySem PySem.Spec PyProof.Rows
section
variable {X:Cx} {x:Str} {p pos:Pos} {e:Expr} {es:List Expr} {t:TA} {id T:String} {r:List V→Hp→VK→Prop}
end
end L2
namespace L2
open PySem PySem.Spec PyProof.Rows
section
variable {κ:Type} [DecidableEq κ]
noncomputable def valV (kvs:List (κ×V)) (k:κ):Option V:=(kvs.find? fun kv=>decide (kv.1=k)).map (·.2)
noncomputable def putK (kvs:List (κ×V)) (k:κ) (v:V):List (κ×V) :=
 if (kvs.any fun kv=>decide (kv.1=k))=true then kvs.map (fun kv=>if kv.1=k then (kv.1,v) else kv) else kvs ++ [(k,v)]
theorem valV_pos {p:κ×V} {r:List (κ×V)} {k:κ} (e:p.1=k):valV (p :: r) k=some p.2:=by simp [valV,List.find?_cons,e]
theorem valV_neg {p:κ×V} {r:List (κ×V)} {k:κ} (e:¬ p.1=k):valV (p :: r) k=valV r k:=by simp [valV,List.find?_cons,e]
theorem valV_any (k:κ):∀ kvs:List (κ×V),(kvs.any fun kv=>decide (kv.1=k))=(valV kvs k).isSome
 | []=>rfl
 | p :: r=>by
   rw [List.any_cons]
   by_cases e:p.1=k
   · simp only [valV_pos e,decide_eq_true e,Bool.true_or,Option.isSome_some]
   · rw [valV_neg e,decide_eq_false e,Bool.false_or]; exact valV_any k r
theorem length_putK (kvs:List (κ×V)) (k:κ) (v:V):(putK kvs k v).length≤kvs.length+1:=by
 unfold putK
 split
 · rw [List.length_map]; omega
 · rw [List.length_append,List.length_cons,List.length_nil]; omega
theorem putK_new {kvs:List (κ×V)} {k:κ} (v:V) (h:valV kvs k=none):putK kvs k v=kvs ++ [(k,v)]:=by
 unfold putK
 rw [valV_any,h]
 exact if_neg (by decide)
theorem RelO.isSome_eq {o:Option V} {u:Option Value} (r:RelO o u):o.isSome=u.isSome:=by
 cases o with
 | none=>cases u with
   | none=>rfl
   | some _=>exact (show False from r).elim
 | some _=>cases u with
   | none=>exact (show False from r).elim
   | some _=>rfl
theorem RelO.getD {o:Option V} {u:Option Value} {d:V} {d':Value} (r:RelO o u) (rd:RelV d d'):RelV (o.getD d) (u.getD d'):=by
 cases o with
 | none=>cases u with
   | none=>exact rd
   | some _=>exact (show False from r).elim
 | some _=>cases u with
   | none=>exact (show False from r).elim
   | some _=>exact r
theorem KV.val {kvs:List (κ×V)} {vs:List (κ×Value)} (r:KV kvs vs) (k:κ):RelO (valV kvs k) (valueAt vs k):=by
 unfold KV at r
 induction r with
 | nil=>exact True.intro
 | @cons p q ps qs h t ih =>
   obtain ⟨h1,h2⟩:=h
   by_cases e:p.1=k
   · have e':q.1=k:=h1.symm.trans e
     have b:valueAt (q :: qs) k=some q.2:=by simp [valueAt,List.find?_cons,e']
     rw [valV_pos e,b]; exact h2
   · have e':¬ q.1=k:=fun z=>e (h1.trans z)
     have b:valueAt (q :: qs) k=valueAt qs k:=by simp [valueAt,List.find?_cons,e']
     rw [valV_neg e,b]; exact ih
theorem KV.any {kvs:List (κ×V)} {vs:List (κ×Value)} (r:KV kvs vs) (k:κ):(kvs.any fun kv=>decide (kv.1=k))=vs.any fun kv=>decide (kv.1=k):=by
 unfold KV at r
 induction r with
 | nil=>rfl
 | cons h t ih=>rw [List.any_cons,List.any_cons,ih,h.1]
theorem KV.repl {kvs:List (κ×V)} {vs:List (κ×Value)} (r:KV kvs vs) (k:κ) {y:V} {u:Value} (ry:RelV y u) :
  KV (kvs.map fun kv=>if kv.1=k then (kv.1,y) else kv) (vs.map fun kv=>if kv.1=k then (kv.1,u) else kv):=by
 unfold KV at r ⊢
 induction r with
 | nil=>exact .nil
 | @cons p q ps qs h t ih =>
   rw [List.map_cons,List.map_cons]
   refine .cons ?_ ih
   obtain ⟨h1,h2⟩:=h
   by_cases e:p.1=k
   · rw [if_pos e,if_pos (h1.symm.trans e)]; exact ⟨h1,ry⟩
   · rw [if_neg e,if_neg (fun z=>e (h1.trans z))]; exact ⟨h1,h2⟩
theorem KV.put {kvs:List (κ×V)} {vs:List (κ×Value)} (r:KV kvs vs) (k:κ) {y:V} {u:Value} (ry:RelV y u):KV (putK kvs k y) (stored vs k u):=by
 unfold putK stored
 rw [r.any k]
 by_cases e:(vs.any fun kv=>decide (kv.1=k))=true
 · rw [if_pos e,if_pos e]; exact r.repl k ry
 · rw [if_neg e,if_neg e]; exact Paired.snoc r ⟨rfl,ry⟩
theorem KV.length {kvs:List (κ×V)} {vs:List (κ×Value)} (r:KV kvs vs):kvs.length=vs.length:=Paired.length r
end
theorem kV_is {P:Program} {w:World} {k:Key} {u:Value} (r:RelV (kV k) u):(mixKind P w).is k u=true:=by
 cases k with
 | inl i=>obtain ⟨t,e⟩:=(show ∃ t,u=Value.int i t from r); subst e; exact mixKind_int P w i t
 | inr x=>obtain ⟨t,e⟩:=(show ∃ t,u=Value.str x t from r); subst e; exact mixKind_str P w x t
theorem items_are {P:Program} {w:World}:∀ {ks:List Key} {us:List Value},Vals (ks.map kV) us→ItemsAre (mixKind P w) ks us
 | [],_,r=>by rw [List.map_nil] at r; cases r; exact .nil
 | k :: ks,_,r=>by
   rw [List.map_cons] at r
   cases r with
   | cons h t=>exact .cons (kV_is h) (items_are t)
noncomputable abbrev KT (H:Hp):List (List Key×V)→List (List Key×Addr×Value)→Prop:=Paired fun p q=>p.1=q.1∧H q.2.1=some (.tup (p.1.map kV))∧RelV p.2 q.2.2
theorem KT.val {H:Hp} {kvs:List (List Key×V)} {xs:List (List Key×Addr×Value)} (r:KT H kvs xs) (k:List Key):RelO (valV kvs k) ((atKey xs k).map (·.2)):=by
 induction r with
 | nil=>exact True.intro
 | @cons p q ps qs h t ih =>
   obtain ⟨h1,_,h2⟩:=h
   by_cases e:p.1=k
   · have e':q.1=k:=h1.symm.trans e
     have b:atKey (q :: qs) k=some q.2:=by simp [atKey,List.find?_cons,e']
     rw [valV_pos e,b]; exact h2
   · have e':¬ q.1=k:=fun z=>e (h1.trans z)
     have b:atKey (q :: qs) k=atKey qs k:=by simp [atKey,List.find?_cons,e']
     rw [valV_neg e,b]; exact ih
theorem KT.repl {H:Hp} {kvs:List (List Key×V)} {xs:List (List Key×Addr×Value)} (r:KT H kvs xs) (k:List Key) {y:V} {u:Value} (ry:RelV y u) :
  KT H (kvs.map fun kv=>if kv.1=k then (kv.1,y) else kv) (xs.map (putAt k u)):=by
 induction r with
 | nil=>exact .nil
 | @cons p q ps qs h t ih =>
   rw [List.map_cons,List.map_cons]
   refine .cons ?_ ih
   obtain ⟨h1,h2,h3⟩:=h
   unfold putAt
   by_cases e:p.1=k
   · rw [if_pos e,if_pos (h1.symm.trans e)]; exact ⟨h1,h2,ry⟩
   · rw [if_neg e,if_neg (fun z=>e (h1.trans z))]; exact ⟨h1,h2,h3⟩
theorem KT.put {H:Hp} {kvs:List (List Key×V)} {xs:List (List Key×Addr×Value)} (r:KT H kvs xs) (k:List Key) {b:Addr} {y:V} {u:Value} (hb:H b=some (.tup (k.map kV))) (ry:RelV y u) :
  KT H (putK kvs k y) (storedH xs k b u):=by
 have e:(kvs.any fun kv=>decide (kv.1=k))=(atKey xs k).isSome:=by
  rw [valV_any,(r.val k).isSome_eq,Option.isSome_map]
 unfold putK storedH
 rw [e]
 by_cases q:(atKey xs k).isSome=true
 · rw [if_pos q,if_pos q]; exact r.repl k ry
 · rw [if_neg q,if_neg q]; exact Paired.snoc r ⟨rfl,hb,ry⟩
theorem KT.keeps {H H':Hp} {kvs:List (List Key×V)} {xs:List (List Key×Addr×Value)} (r:KT H kvs xs) (ht:∀ b ys,H b=some (.tup ys)→H' b=some (.tup ys)):KT H' kvs xs :=
 Paired.mapP r fun _ _ z=>⟨z.1,ht _ _ z.2.1,z.2.2⟩
section
variable {P:Program} {w:World} {H:Hp} {h:Heap} {a:Addr}
theorem rd_of {u:HO} (ok:HOk P w H h) (e:Rd H a u):ObjOk P w H h a u:=e.ok ok
theorem dk_rd {kvs:List (Key×V)} (ok:HOk P w H h) (e:Rd H a (.dK kvs)):kvs.length≤sizeLine∧(a == sysModules)=false∧∃ vs,KV kvs vs∧h.DictOf (mixKind P w) a vs :=
 show ObjOk P w H h a (.dK kvs) from rd_of ok e
theorem dk_of {kvs:List (Key×V)} (ok:HOk P w H h) (e:H a=some (.dK kvs)):kvs.length≤sizeLine∧(a == sysModules)=false∧∃ vs,KV kvs vs∧h.DictOf (mixKind P w) a vs:=dk_rd ok (.inl e)
theorem key_of {ks:List Key} (ok:HOk P w H h) (e:H a=some (.tup (ks.map kV))):(tupleKind (mixKind P w)).is h ks a:=by
 obtain ⟨_,its,r,o,h1,h2,n,h3⟩:=(show ObjOk P w H h a (.tup (ks.map kV)) from ok a _ e)
 exact ⟨o,its.toArray,n,h1,h2,h3,by simpa using items_are r⟩
theorem dt_rd {kvs:List (List Key×V)} (ok:HOk P w H h) (e:Rd H a (.dT kvs)):kvs.length≤sizeLine∧(a == sysModules)=false ∧
  ∃ xs,KT H kvs xs∧h.DictOfH (tupleKind (mixKind P w)) a xs:=by
 obtain ⟨z,y,xs,r,o,es,ep,h1,h2,h3,h4,h5⟩:=(show ObjOk P w H h a (.dT kvs) from rd_of ok e)
 refine ⟨z,y,xs,r,o,es,ep,h1,h2,h3,h4,fun x hx=>?_,h5⟩
 have all:∀ {l:List (List Key×V)} {m:List (List Key×Addr×Value)},KT H l m→∀ x∈m,(tupleKind (mixKind P w)).is h x.1 x.2.1:=by
  intro l m q
  induction q with
  | nil=>intro x hx; exact nomatch hx
  | @cons p q ps qs hq t ih =>
    intro x hx
    rcases List.mem_cons.mp hx with e | hx
    · subst e
      exact key_of ok (by rw [← hq.1]; exact hq.2.1)
    · exact ih x hx
 exact all r x hx
theorem dt_of {kvs:List (List Key×V)} (ok:HOk P w H h) (e:H a=some (.dT kvs)):kvs.length≤sizeLine∧(a == sysModules)=false ∧
 ∃ xs,KT H kvs xs∧h.DictOfH (tupleKind (mixKind P w)) a xs:=dt_rd ok (.inl e)
end
noncomputable def DGet (H:Hp) (a:Addr) (y:V) (r:Option V):Prop :=
 (∃ kvs k,Rd H a (.dK kvs)∧y=kV k∧r=valV kvs k)∨∃ kvs k b,Rd H a (.dT kvs)∧y = .ref b∧H b=some (.tup (k.map kV))∧r=valV kvs k
noncomputable def DPut (H:Hp) (a:Addr) (y v:V) (H':Hp):Prop :=
 (∃ kvs k,H a=some (.dK kvs)∧y=kV k∧kvs.length < sizeLine∧H'=upd H a (.dK (putK kvs k v))) ∨
 ∃ kvs k b,H a=some (.dT kvs)∧y = .ref b∧H b=some (.tup (k.map kV))∧kvs.length < sizeLine∧H'=upd H a (.dT (putK kvs k v))
theorem DGet.k {H:Hp} {a:Addr} {kvs:List (Key×V)} {k:Key} (e:H a=some (.dK kvs)):DGet H a (kV k) (valV kvs k):=.inl ⟨kvs,k,.inl e,rfl,rfl⟩
theorem DPut.k {H:Hp} {a:Addr} {kvs:List (Key×V)} {k:Key} {v:V} (e:H a=some (.dK kvs)) (hl:kvs.length < sizeLine):DPut H a (kV k) v (upd H a (.dK (putK kvs k v))):=.inl ⟨kvs,k,e,rfl,hl,rfl⟩
theorem DPut.t {H:Hp} {a b:Addr} {kvs:List (List Key×V)} {k:List Key} {v:V} (e:H a=some (.dT kvs)) (eb:H b=some (.tup (k.map kV))) (hl:kvs.length < sizeLine) :
 DPut H a (.ref b) v (upd H a (.dT (putK kvs k v))):=.inr ⟨kvs,k,b,e,rfl,eb,hl,rfl⟩
section
variable {X:Cx} {pins:List (Addr×Obj)} {σ:St} {H:Hp} {s:Shared} {a:Addr} {y v:V} {u r:Value} {o:Option V} {A:Around} {E:Value→Shared→Prop}
theorem Inv.big (I:Inv X pins σ H s):sysModules < s.heap.objs.size:=by
 have h:mainGlobals < s.heap.objs.size:=(I.mod.glob.keeps I.bk).lt
 exact Nat.lt_trans (by decide) h
theorem d_getItem {Q:Value→Shared→Prop} (hu:A.units+1 < cLine) (I:Inv X pins σ H s) (g:DGet H a y (some v)) (ry:RelV y u) (h:∀ w' s',Inv X pins σ H s'→RelV v w'→Q w' s') :
  wpAny (model X.prog X.w) A (getItem (.ref a) u) Q E s:=by
 rcases g with ⟨kvs,k,e,ey,l⟩ | ⟨kvs,k,b,e,ey,eb,l⟩
 · subst ey
   obtain ⟨z,hd,vs,rel,dd⟩:=dk_rd I.hok e
   obtain ⟨w',hw,rw'⟩:=RelO.some_of (v:=v) (o:=valueAt vs k) (by rw [l]; exact rel.val k)
   exact wpAny_getItem_of (kV_is ry) dd.mapOf hw (h w' _ (I.tok _) rw')
 · subst ey
   cases (show u=Value.ref b from ry)
   obtain ⟨z,hd,xs,rel,dd⟩:=dt_rd I.hok e
   obtain ⟨w',hw,rw'⟩:=RelO.some_of (v:=v) (o:=(atKey xs k).map (·.2)) (by rw [l]; exact rel.val k)
   obtain ⟨p,hp,hp2⟩:=Option.map_eq_some_iff.mp hw
   refine wpAny_getItem_heap (tupleKind_room_in1 hu) (key_of I.hok eb) dd hp ?_
   rw [hp2]
   exact h w' _ (I.tok _) rw'
theorem d_write {h':Heap} {t':Nat} {ob:HO} (I:Inv X pins σ H s) (mu:Mut (H a)) (hs:Heap.SameBut a s.heap h') (he:∃ q,h'.get? a=some q) (new:ObjOk X.prog X.w (upd H a ob) h' a ob) :
  Inv X pins σ (upd H a ob) { s with heap:=h',toks:=t' } :=
 I.write (x:=a) (e:=a) mu (.inl rfl) (fun b q hb z=>(hs.2 b hb).trans z) he new
theorem dk_new {P:Program} {w:World} {H':Hp} {h':Heap} {kvs:List (Key×V)} {vs:List (Key×Value)} (z:kvs.length≤sizeLine) (hd:(a == sysModules)=false) (rel:KV kvs vs) (dd:h'.DictOf (mixKind P w) a vs) :
 ObjOk P w H' h' a (.dK kvs):=⟨z,hd,vs,rel,dd⟩
theorem d_setItem {H':Hp} {Q:Unit→Shared→Prop} (hu:A.units+1 < cLine) (I:Inv X pins σ H s) (g:DPut H a y v H') (ry:RelV y u) (rv:RelV v r) (h:∀ s',Inv X pins σ H' s'→Q () s') :
  wpAny (model X.prog X.w) A (setItem (.ref a) u r) Q E s:=by
 rcases g with ⟨kvs,k,e,ey,l,eH⟩ | ⟨kvs,k,b,e,ey,eb,l,eH⟩
 · subst ey eH
   obtain ⟨z,hd,vs,rel,dd⟩:=dk_of I.hok e
   have hz:vs.length≤sizeLine:=by rw [← rel.length]; exact z
   have hl:(putK kvs k v).length≤sizeLine:=by have:=length_putK kvs k v; omega
   refine wpAny_setItem_pairs (hsz:=hz) (kV_is ry) dd fun h' dd' hs=>h _ ?_
   have he:∃ q,h'.get? a=some q:=let ⟨q,_,_,hq,_⟩:=dd'; ⟨q,hq⟩
   exact d_write I (by rw [e]; exact True.intro) hs he (dk_new hl hd (rel.put k rv) dd')
 · subst ey eH
   cases (show u=Value.ref b from ry)
   obtain ⟨z,hd,xs,rel,dd⟩:=dt_of I.hok e
   have hz:xs.length≤sizeLine:=by rw [← Paired.length rel]; exact z
   have hl:(putK kvs k v).length≤sizeLine:=by have:=length_putK kvs k v; omega
   refine wpAny_setItem_heap (hsz:=hz) (tupleKind_room_in1 hu) (key_of I.hok eb) dd fun h' dd' hs=>h _ ?_
   obtain ⟨q,es,ep,hq,h2,h3,h4,_,h5⟩:=dd'
   refine d_write I (by rw [e]; exact True.intro) hs ⟨q,hq⟩ ⟨hl,hd,_,(rel.put k eb rv).keeps fun c ys ec=>?_,q,es,ep,hq,h2,h3,h4,h5⟩
   rw [upd_ne (ne_of ec e (fun z=>nomatch z))]
   exact ec
end
section
variable {X:Cx} {pins:List (Addr×Obj)} {σ:St} {H:Hp} {s:Shared} {a:Addr} {kvs:List (Key×V)} {k:Key} {u:Value} {A:Around} {E:Value→Shared→Prop}
theorem d_len {Q:Value→Shared→Prop} (I:Inv X pins σ H s) (e:Rd H a (.dK kvs)) (h:∀ t s',Inv X pins σ H s'→Q (.int kvs.length t) s'):wpAny (model X.prog X.w) A (call (.builtin "len") [.ref a]) Q E s:=by
 obtain ⟨z,hd,vs,rel,dd⟩:=dk_rd I.hok e
 refine call_len_dict hd dd (by rw [← rel.length]; rw [sizeLine_eq] at z; omega) ?_
 rw [← rel.length]
 exact h _ _ (I.tok _)
end
noncomputable def NoSl (i:Expr):Prop:=∀ ov iv,subscripted i false ov iv=operate [ov,iv] (getItem ov iv)
theorem subD_of {prog:Program} {w:World} {A:Around} {E:Value→Shared→Prop} {s:Shared} {env:Env} {value slice:Expr} {pos:Pos} {T id:String} {Q:Value→Shared→Prop}
  (hl:typeLookup (.type T) "__getitem__" = pure (some (.builtin id))) (hs:NoSl slice)
  (h:wpAny (model prog w) A (eval value env) (fun o s₁=>wpAny (model prog w) A (eval slice env) (fun i s₂=>s₂.TypeIs o T∧wpAny (model prog w) A (getItem o i) Q E s₂) E s₁) E s) :
  wpAny (model prog w) A (eval (.Subscript value slice pos) env) Q E s:=by
 refine Subscript_ (wpAny_mono h (fun o s₁ h₁=>wpAny_mono h₁ (fun i s₂ h₂=>?_) fun _ _ x=>x) fun _ _ x=>x)
 obtain ⟨hT,h₂⟩:=h₂
 unfold subscriptTail
 refine wpAny_bind ?_
 rw [getitemInPython_of_ne hT.not_modules]
 refine wpAny_bind (wpAny_specialOf hT hl ?_)
 have fin:wpAny (model prog w) A (subscripted slice false o i) (fun r s₃=>wpAny (model prog w) A (letTemporaryGo value o r >>= fun _=>pure r) Q E s₃) E s₂:=by
  rw [hs o i]
  exact wpAny_operating (wpAny_mono h₂ (fun r s₃ h₃=>wpAny_bind (wpAny_letTemporaryGo (wpAny_pure h₃))) fun _ _ x=>x)
 first
  | exact wpAny_pure (wpAny_bind fin)
  | exact wpAny_bind (wpAny_pure (wpAny_bind fin))
  | exact wpAny_bind fin
theorem dict_typeIs {X:Cx} {pins:List (Addr×Obj)} {σ:St} {H:Hp} {s:Shared} {a:Addr} {y:V} {o:Option V} (I:Inv X pins σ H s) (g:DGet H a y o):s.TypeIs (.ref a) "dict":=by
 rcases g with ⟨kvs,k,e,_,_⟩ | ⟨kvs,k,b,e,_,_,_⟩
 · obtain ⟨_,_,vs,_,dd⟩:=dk_rd I.hok e
   exact dd.typeIs
 · obtain ⟨_,_,xs,_,dd⟩:=dt_rd I.hok e
   exact dd.typeIs
noncomputable def tDGet (td ty:TE):TE:=fun σ H Q=>td σ H fun x H1=>ty σ H1 fun y H2=>∃ a v,x = .ref a∧DGet H2 a y (some v)∧Q v H2
noncomputable def sDPut (td ty tv:TE):TS:=fun D σ H=>tv σ H fun v H1=>td σ H1 fun x H2=>ty σ H2 fun y H3=>∃ a H4,x = .ref a∧DPut H3 a y v H4∧D.nx σ H4
section
variable {X:Cx} {o i e value:Expr} {pos pos' tpos:Pos} {td ty tv:TE}
theorem pe_dget (hu:X.A.units+1 < cLine) (ho:PE X o td) (hi:PE X i ty) (hs:NoSl i):PE X (.Subscript o i pos) (tDGet td ty):=by
 intro pins s σ H Q I h
 refine subD_of PySem.F.slot_dict_getitem.lookup hs (thn (ho pins s σ H _ I h) fun u s1 ⟨x,H1,I1,rx,q1⟩=>thn (hi pins s1 σ H1 _ I1 q1) fun iv s2 ⟨y,H2,I2,ry,a,v,ex,g,q2⟩=>?_)
 subst ex
 obtain rfl:u=Value.ref a:=rx
 exact ⟨dict_typeIs I2 g,d_getItem hu I2 g ry fun w' s3 I3 rw'=>⟨v,H2,I3,rw',q2⟩⟩
theorem ps_dput (hu:X.A.units+1 < cLine) (ho:PE X o td) (hi:PE X i ty) (hv:PE X value tv) (hs:swapsWith value (some (.Subscript o i pos')) pos.line X.env=pure false) :
  PS X (.Assign [.Subscript o i pos'] value pos) (sDPut td ty tv):=by
 intro pins s σ H D I h
 refine wpAny_Assign_Subscript (thn (hv pins s σ H _ I h) fun r s1 ⟨v,H1,I1,rv,q1⟩=>thn (ho pins s1 σ H1 _ I1 q1) fun u s2 ⟨x,H2,I2,rx,q2⟩=>thn (hi pins s2 σ H2 _ I2 q2) fun iv s3 ⟨y,H3,I3,ry,a,H4,ex,g,q3⟩=>?_) hs
 subst ex
 obtain rfl:u=Value.ref a:=rx
 exact d_setItem hu I3 g ry rv fun s4 I4=>⟨σ,H4,I4,q3⟩
end
theorem dk_empty {P:Program} {w:World} {H:Hp} (h:Heap) (hb:sysModules < h.objs.size):ObjOk P w H (h.push { cls:=.type "dict",data:=.dict #[] }) h.objs.size (.dK []) :=
 ⟨Nat.zero_le _,beq_eq_false_iff_ne.mpr (Ne.symm (Nat.ne_of_lt hb)),[],.nil,Heap.DictOf.new h⟩
theorem dt_empty {P:Program} {w:World} {H:Hp} (h:Heap) (hb:sysModules < h.objs.size):ObjOk P w H (h.push { cls:=.type "dict",data:=.dict #[] }) h.objs.size (.dT []) :=
 ⟨Nat.zero_le _,beq_eq_false_iff_ne.mpr (Ne.symm (Nat.ne_of_lt hb)),[],.nil,_,#[],0,Heap.get?_push_size _ rfl,⟨rfl,rfl,rfl⟩,rfl,rfl,List.nodup_nil⟩
noncomputable def tDNewK:TE:=fun _ H Q=>∀ p,H p=none→Q (.ref p) (upd H p (.dK []))
noncomputable def tDNewT:TE:=fun _ H Q=>∀ p,H p=none→Q (.ref p) (upd H p (.dT []))
section
variable {X:Cx} {pos:Pos}
theorem pe_dnewK:PE X (.Dict [] [] pos) tDNewK:=fun pins s σ H Q I h =>
 wpAny_Dict_empty ⟨.ref s.heap.objs.size,_,I.laid (a:=s.heap.objs.size) (o:=.dK []) (t':=s.toks) (fun _ _ q=>Heap.get?_push_of_some _ q) (Nat.le_refl _) (dk_empty s.heap I.big),rfl,h _ (I.hok.fresh (Nat.le_refl _))⟩
theorem pe_dnewT:PE X (.Dict [] [] pos) tDNewT:=fun pins s σ H Q I h =>
 wpAny_Dict_empty ⟨.ref s.heap.objs.size,_,I.laid (a:=s.heap.objs.size) (o:=.dT []) (t':=s.toks) (fun _ _ q=>Heap.get?_push_of_some _ q) (Nat.le_refl _) (dt_empty s.heap I.big),rfl,h _ (I.hok.fresh (Nat.le_refl _))⟩
end
structure M1 (X:Cx) (o:Expr) (m:Str) (apos:Pos) (e:Expr) (cpos:Pos):Prop where
 base:attributeBase o m X.env (eval o X.env)=eval o X.env
 few:((backTo cpos (starEach [e] X.env)).all (fun x=>!x.1) && (backToKw cpos (keywordEach [] X.env)).all (fun x=>x.1.isSome)
  && decide (([e]:List Expr).length+([]:List Keyword).length+(if ([]:List Keyword).isEmpty then 0 else 1) < 30))=true
 line:(apos.endLine == cpos.line)=true
 trees:backTo cpos (starEach [e] X.env)=[(false,eval e X.env)]
structure M2 (X:Cx) (o:Expr) (m:Str) (apos:Pos) (e f:Expr) (cpos:Pos):Prop where
 base:attributeBase o m X.env (eval o X.env)=eval o X.env
 few:((backTo cpos (starEach [e,f] X.env)).all (fun x=>!x.1) && (backToKw cpos (keywordEach [] X.env)).all (fun x=>x.1.isSome)
  && decide (([e,f]:List Expr).length+([]:List Keyword).length+(if ([]:List Keyword).isEmpty then 0 else 1) < 30))=true
 line:(apos.endLine == cpos.line)=true
 trees:backTo cpos (starEach [e,f] X.env)=[(false,eval e X.env),(false,eval f X.env)]
noncomputable def IsD (H:Hp) (a:Addr):Prop:=(∃ kvs,Rd H a (.dK kvs))∨∃ kvs,Rd H a (.dT kvs)
theorem isD_at {X:Cx} {pins:List (Addr×Obj)} {σ:St} {H:Hp} {s:Shared} {a:Addr} (I:Inv X pins σ H s) (d:IsD H a) :
  s.TypeIs (.ref a) "dict"∧(∀ b,Value.ref a = .ref b→∃ ob,s.heap.get? b=some ob∧ob.dict=none)∧(a == sysModules)=false:=by
 rcases d with ⟨kvs,e⟩ | ⟨kvs,e⟩
 · obtain ⟨_,hd,vs,_,dd⟩:=dk_rd I.hok e
   refine ⟨dd.typeIs,fun b q=>?_,hd⟩
   cases q
   obtain ⟨ob,_,_,h1,h2,_⟩:=dd
   exact ⟨ob,h1,h2.2.1⟩
 · obtain ⟨_,hd,xs,_,dd⟩:=dt_rd I.hok e
   refine ⟨dd.typeIs,fun b q=>?_,hd⟩
   cases q
   obtain ⟨ob,_,_,h1,h2,_⟩:=dd
   exact ⟨ob,h1,h2.2.1⟩
section
variable {X:Cx} {pins:List (Addr×Obj)} {σ:St} {H:Hp} {s:Shared} {a:Addr} {y d:V} {u r:Value} {o:Option V} {A:Around} {E:Value→Shared→Prop}
theorem d_get2 {Q:Value→Shared→Prop} (hu:A.units+1 < cLine) (I:Inv X pins σ H s) (g:DGet H a y o) (ry:RelV y u) (rd:RelV d r) (h:∀ w' s',Inv X pins σ H s'→RelV (o.getD d) w'→Q w' s') :
  wpAny (model X.prog X.w) A (call (.builtin "dict.get") [.ref a,u,r]) Q E s:=by
 rcases g with ⟨kvs,k,e,ey,l⟩ | ⟨kvs,k,b,e,ey,eb,l⟩
 · subst ey
   obtain ⟨z,hd,vs,rel,dd⟩:=dk_rd I.hok e
   refine call_meetsIn PySem.F.slot_dict_get dd.typeIs PySem.F.entry_dict_get (PySem.F.args_dict_get_3 _ _ _) (meets_dict_get_default (mixKind X.prog X.w) a (kV_is ry) hd r) ⟨_,dd.mapOf,h _ _ (I.tok _) ?_⟩
   rw [l]
   exact (rel.val k).getD rd
 · subst ey
   cases (show u=Value.ref b from ry)
   obtain ⟨z,hd,xs,rel,dd⟩:=dt_rd I.hok e
   refine call_meetsIn PySem.F.slot_dict_get dd.typeIs PySem.F.entry_dict_get (PySem.F.args_dict_get_3 _ _ _) (meetsH_dict_get_default (tupleKind (mixKind X.prog X.w)) a b hd r) ⟨tupleKind_room_in1 hu,k,xs,key_of I.hok eb,dd,h _ _ (I.tok _) ?_⟩
   rw [l]
   exact (rel.val k).getD rd
end
noncomputable def tDGet2 (td ty tx:TE):TE:=fun σ H Q=>td σ H fun x H1=>∃ a,x = .ref a∧IsD H1 a∧ty σ H1 fun y H2=>tx σ H2 fun z H3=>∃ o,DGet H3 a y o∧Q (o.getD z) H3
section
variable {X:Cx} {o e f:Expr} {apos cpos:Pos} {td ty tx:TE}
theorem pe_dget2 (hu:X.A.units+1 < cLine) (ho:PE X o td) (he:PE X e ty) (hf:PE X f tx) (m:M2 X o "get" apos e f cpos):PE X (.Call (.Attribute o "get" apos) [e,f] [] cpos) (tDGet2 td ty tx):=by
 intro pins s σ H Q I h
 refine wpAny_Call_method m.base m.few m.line PySem.F.plainAttrs_dict PySem.F.slot_dict_get PySem.F.type_dict_get (thn (ho pins s σ H _ I h) fun u s1 ⟨x,H1,I1,rx,a,ex,d,q1⟩=>?_)
 subst ex
 obtain rfl:u=Value.ref a:=rx
 obtain ⟨t1,t2,_⟩:=isD_at I1 d
 refine ⟨t1,t2,?_⟩
 rw [m.trees]
 refine Calls.callWith_builtin rfl (Calls.evalArgs_plain (Calls.spliced_cons (thn (he pins s1 σ H1 _ I1 q1) fun iv s2 ⟨y,H2,I2,ry,q2⟩ =>
  Calls.spliced_cons (thn (hf pins s2 σ H2 _ I2 q2) fun fv s3 ⟨z,H3,I3,rz,ov,g,q3⟩=>Calls.spliced_nil ?_))))
 exact d_get2 hu I3 g ry rz fun w' s4 I4 rw'=>⟨_,H3,I4,rw',q3⟩
end
section
variable {X:Cx} {pins:List (Addr×Obj)} {σ:St} {H:Hp} {s:Shared} {a:Addr} {kvs:List (Key×V)} {A:Around} {E:Value→Shared→Prop}
end
section
variable {X:Cx} {pins:List (Addr×Obj)} {σ:St} {H:Hp} {s:Shared} {a:Addr} {y:V} {u:Value} {A:Around} {E:Value→Shared→Prop}
end
end L2
namespace Att
open PySem PySem.W PySem.Calls PyProof.Rows
section
variable {prog:Program} {w:World} {A:Around} {E:Value→Shared→Prop} {s:Shared} {K:Frag}
end
end Att
namespace L2
open PySem PySem.Spec PyProof.Rows
end L2
namespace L2
open PySem PySem.Spec PyProof.Rows
end L2
namespace L2
open PySem PySem.Spec PyProof.Rows
section
variable {P:Program} {w:World} {K:PySem.W.Frag} {mg:Str→Option Value} {base:Heap}
end
section
variable {X:Cx}
theorem call_lenD:CallR X (.builtin "len") (fun xs H Q=>∃ a kvs,xs=[V.ref a]∧H a=some (.dK kvs)∧Q (.int kvs.length) H):=by
 intro pins s σ H xs us Q I r h
 obtain ⟨a,kvs,rfl,ha,q⟩:=h
 obtain ⟨u,rfl,ru⟩:=vals1 r
 cases ru
 exact d_len I (.inl ha) fun t s' I'=>⟨.int kvs.length,H,I',⟨t,rfl⟩,q⟩
end
section
variable {κ:Type} [DecidableEq κ]
end
end L2
namespace VT
open PySem PySem.Spec PyProof.Rows L2
noncomputable def keyT:T→Option Key
 | .int i=>some (.inl i)
 | .str x=>some (.inr x)
 | _=>none
theorem keyT_at {K:PySem.W.Frag} {H:Hp} {A:List Addr} {t:T} {v:V} {k:Key} (h:AtR K H A t v) (e:keyT t=some k):v=kV k:=by
 cases t with
 | int i=>cases e; exact h.int
 | str x=>cases e; exact h.str
 | _=>cases e
noncomputable def dGet {α:Type}:List Key→List α→Key→Option α
 | k :: ks,t :: ts,x=>if k=x then some t else dGet ks ts x
 | _,_,_=>none
noncomputable def hasK (ks:List Key) (x:Key):Bool:=ks.any fun k=>decide (k=x)
noncomputable def dKeys (ks:List Key) (x:Key):List Key:=if hasK ks x=true then ks else ks ++ [x]
noncomputable def dVals {α:Type} (ks:List Key) (ts:List α) (x:Key) (u:α):List α:=if hasK ks x=true then List.zipWith (fun k t=>if k=x then u else t) ks ts else ts ++ [u]
theorem dGet_val:∀ (ks:List Key) (vs:List V) (x:Key),valV (ks.zip vs) x=dGet ks vs x
 | [],vs,x=>rfl
 | k :: ks,[],x=>rfl
 | k :: ks,v :: vs,x=>by
   simp only [dGet,List.zip_cons_cons]
   by_cases e:k=x
   · rw [if_pos e,valV_pos (p:=(k,v)) e]
   · rw [if_neg e,valV_neg (p:=(k,v)) e]; exact dGet_val ks vs x
theorem dGet_nil {α:Type} (ts:List α) (x:Key):dGet [] ts x=none:=by cases ts <;> rfl
theorem dGet_at {K:PySem.W.Frag} {H:Hp} {A:List Addr}:∀ {ks:List Key} {ts:List T} {vs:List V} {x:Key},AtL K H A ts vs→(∀ t,dGet ks ts x=some t→∃ v,dGet ks vs x=some v∧At K H A t v)∧(dGet ks ts x=none→dGet ks vs x=none)
 | [],ts,vs,x,h=>by
   rw [dGet_nil,dGet_nil]
   refine ⟨fun t e=>?_,fun _=>rfl⟩
   cases e
 | k :: ks,[],vs,x,h=>by
   simp only [AtL] at h
   subst h
   exact ⟨fun t e=>(by cases e),fun _=>rfl⟩
 | k :: ks,t :: ts,vs,x,h=>by
   simp only [AtL] at h
   obtain ⟨v,r,rfl,h1,h2⟩:=h
   simp only [dGet]
   by_cases e:k=x
   · rw [if_pos e,if_pos e]
     exact ⟨fun t e=>by cases e; exact ⟨v,rfl,h1⟩,fun q=>by cases q⟩
   · rw [if_neg e,if_neg e]
     exact dGet_at h2
theorem any_mem (ks:List Key) (vs:List V) (x:Key) (hl:ks.length=vs.length):((ks.zip vs).any fun kv=>decide (kv.1=x))=hasK ks x:=by
 unfold hasK
 induction ks generalizing vs with
 | nil=>rfl
 | cons k ks ih =>
   cases vs with
   | nil=>simp at hl
   | cons v vs=>rw [List.zip_cons_cons,List.any_cons,List.any_cons,ih vs (by simpa using hl)]
theorem zip_map (ks:List Key) (vs:List V) (x:Key) (v:V):(ks.zip vs).map (fun kv=>if kv.1=x then (kv.1,v) else kv)=ks.zip (List.zipWith (fun k t=>if k=x then v else t) ks vs):=by
 induction ks generalizing vs with
 | nil=>rfl
 | cons k ks ih =>
   cases vs with
   | nil=>rfl
   | cons u vs =>
     simp only [List.zip_cons_cons,List.map_cons,List.zipWith_cons_cons]
     rw [ih vs]
     by_cases e:k=x
     · rw [if_pos e,if_pos e]
     · rw [if_neg e,if_neg e]
theorem put_eq (ks:List Key) (vs:List V) (x:Key) (v:V) (hl:ks.length=vs.length):L2.putK (ks.zip vs) x v=(dKeys ks x).zip (dVals ks vs x v)∧(dKeys ks x).length=(dVals ks vs x v).length:=by
 unfold L2.putK dKeys dVals
 rw [any_mem ks vs x hl]
 by_cases e:hasK ks x=true
 · rw [if_pos e,if_pos e,if_pos e]
   exact ⟨zip_map ks vs x v,by simp [hl]⟩
 · rw [if_neg e,if_neg e,if_neg e]
   refine ⟨?_,by simp [hl]⟩
   rw [List.zip_append hl]
   rfl
theorem dVals_at {K:PySem.W.Frag} {H:Hp} {A:List Addr} {ks:List Key} {ts:List T} {vs:List V} {x:Key} {t:T} {v:V} (h:AtL K H A ts vs) (ht:At K H A t v):AtL K H A (dVals ks ts x t) (dVals ks vs x v):=by
 unfold dVals
 by_cases e:hasK ks x=true
 · rw [if_pos e,if_pos e]
   clear e
   induction ks generalizing ts vs with
   | nil=>simp only [List.zipWith_nil_left]; exact AtL.nil
   | cons k ks ih =>
     cases ts with
     | nil =>
       simp only [AtL] at h
       subst h
       simp only [List.zipWith_nil_right]
       exact AtL.nil
     | cons t0 ts =>
       simp only [AtL] at h
       obtain ⟨v0,r,rfl,h1,h2⟩:=h
       simp only [List.zipWith_cons_cons]
       refine AtL.cons ?_ (ih h2)
       by_cases q:k=x
       · rw [if_pos q,if_pos q]; exact ht
       · rw [if_neg q,if_neg q]; exact h1
 · rw [if_neg e,if_neg e]
   exact h.append (AtL.cons ht AtL.nil)
section
variable {X:Cx} {Z:Zc} {e a b:Expr} {fa fb fc:FE} {pos:Pos}
noncomputable def fDNew:FP:=fun _ Q=>Q (.fr (.dk [] []))
theorem vp_dnew:VP X Z (.Dict [] [] pos) fDNew:=.mk fun tm=>PE.weak pe_dnewK fun σ H Q ⟨ρ,O,q,I,hf,k⟩ p hp =>
 k _ hf _ _ (same_upd hp) (I.newD (ks:=[]) (ts:=[]) (vs:=[]) hp rfl AtL.nil)
noncomputable def fDG2 (fa fb fc:FE):FP:=fun ρ Q=>fa ρ fun x=>match x with
 | .dk ks ts=>fb ρ fun y=>fc ρ fun z=>match keyT y with
   | some k=>Q (.vw ((dGet ks ts k).getD z))
   | none=>False
 | _=>False
theorem dget_or {K:PySem.W.Frag} {H:Hp} {A:List Addr} {ks:List Key} {ts:List T} {vs:List V} {k:Key} {z:T} {w:V} (h:AtL K H A ts vs) (hz:At K H A z w):At K H A ((dGet ks ts k).getD z) ((dGet ks vs k).getD w):=by
 cases e:dGet ks ts k with
 | none=>rw [(dGet_at h).2 e]; exact hz
 | some t=>obtain ⟨v,e1,e2⟩:=(dGet_at h).1 t e; rw [e1]; exact e2
theorem vp_dg2 {c:Expr} {apos cpos:Pos} (hu:X.A.units+1 < cLine) (ha:VR X Z a fa) (hb:VR X Z b fb) (hc:VE X Z c fc) (m:M2 X a "get" apos b c cpos):VP X Z (.Call (.Attribute a "get" apos) [b,c] [] cpos) (fDG2 fa fb fc):=.mk fun tm=>PE.weak (pe_dget2 hu (ha tm) (hb tm) (hc tm) m) fun σ H Q ⟨ρ,O,q,I,hf,k⟩ =>
 ⟨ρ,O,_,I,hf,fun x hx v H1 s1 a1=>by
   split at hx
   · rename_i ks ts
     obtain ⟨l,vs,rfl,hl,hd,hv⟩:=a1.dk
     refine ⟨l,rfl,.inl ⟨_,.inl hd⟩,ρ,O,_,I.same s1,hx,fun y hy w H2 s2 a2=>⟨ρ,O,_,(I.same s1).same s2,hy,fun z hz u H3 s3 a3=>?_⟩⟩
     split at hz
     · rename_i kk e
       rw [keyT_at a2 e]
       refine ⟨_,DGet.k (s3 _ _ (s2 _ _ hd)),?_⟩
       rw [dGet_val]
       exact k _ hz _ H3 ((s1.trans s2).trans s3) ⟨((I.same s1).same s2).same s3,dget_or ((hv.same s2).same s3) a3⟩
     · exact hz.elim
   · exact hx.elim⟩
noncomputable def gDPut (n:Nat) (f fi:FE):FS:=fun d ρ=>match ρ[n]? with
 | some (some (.dk ks ts,true))=>f ρ fun v=>fi ρ fun i=>match keyT i with
   | some k=>ts.length < 16777216∧d.nx (ρ.set n (some (.dk (dKeys ks k) (dVals ks ts k v),true)))
   | none=>False
 | _=>False
theorem vs_dput (n:Nat) {x:Str} {p:Pos} {f fi:FE} {i:Expr} {tpos:Pos} (hu:X.A.units+1 < cLine) (he:VE X Z e f) (hi:VR X Z i fi)
  (hN:X.N[n]?=some x:=by rfl) (hv:Vis X.env.scope x:=by first | exact Or.inl rfl | exact Or.inr (Or.inl rfl) | exact Or.inr (Or.inr rfl)) (hd:(x == ("__debug__" : Str))=false:=by decide)
  (hcd:(x == ("__classdict__" : Str))=false:=by decide) (hs:swapsWith e (some (.Subscript (.Name x p) i tpos)) pos.line X.env=pure false:=by rfl) :
  VS X Z (.Assign [.Subscript (.Name x p) i tpos] e pos) (gDPut n f fi):=.mk fun tm =>
 PS.weak (ps_dput hu (pe_var hN hv hd hcd) (hi tm) (he tm) hs) fun D σ H ⟨ρ,O,d,I,q,F⟩=>by
  unfold gDPut at q
  split at q
  · rename_i ks ts e0
    obtain ⟨l,h1,h2,xs,hl,h3,h4⟩:=I.root e0
    have ha:l∈av Z O:=List.mem_append_left _ (mem_roots.mpr (List.mem_of_getElem? h1))
    refine ⟨ρ,O,_,I,q,fun t ht v H1 s1 a1=>⟨.ref l,h2,ρ,O,_,I.same s1,ht,fun j hj w H2 s2 a2=>?_⟩⟩
    split at hj
    · rename_i kk ek
      obtain ⟨hlen,hj⟩:=hj
      have h3':=s2 _ _ (s1 _ _ h3)
      have q:=put_eq ks xs kk v hl
      have hz:(ks.zip xs).length < sizeLine:=by
       rw [sizeLine_eq,List.length_zip,hl,Nat.min_self,h4.length]
       omega
      rw [keyT_at a2 ek]
      refine ⟨l,_,rfl,DPut.k h3' hz,?_⟩
      rw [q.1]
      refine F.nx O _ σ _ (((I.same s1).same s2).wrote (t':=.dk (dKeys ks kk) (dVals ks ts kk t)) e0 h1 ⟨dVals ks xs kk v,q.2,upd_same,?_⟩) hj
      exact AtL.wrote ha h3' rfl (dVals_at ((h4.same s1).same s2) (a1.same s2))
    · exact hj.elim
  · exact q.elim
end
end VT
namespace VT
open PySem PySem.Spec PyProof.Rows L2
section
variable {X:Cx} {Z:Zc} {a b:Expr} {fa fb:FE} {pos:Pos}
noncomputable def pLenD (ts:List T) (q:Rt→Prop):Prop:=match ts with
 | [.dk ks vs]=>q (.vw (.int (vs.length:Int)))
 | _=>False
theorem callT_lenD {K:PySem.W.Frag}:CallT K (fun xs H Q=>∃ a kvs,xs=[V.ref a]∧H a=some (.dK kvs)∧Q (.int kvs.length) H) pLenD:=by
 intro Z tm O ρ σ H ts vs q Q I h hp k
 unfold pLenD at hp
 split at hp
 · obtain ⟨v,rfl,a⟩:=paired1 h
   obtain ⟨l,ws,rfl,hl,hd,hv⟩:=a.dk
   refine ⟨l,_,rfl,hd,?_⟩
   rw [List.length_zip,hl,Nat.min_self,hv.length]
   exact k _ hp _ H (Same.refl H) ⟨I,at_int⟩
 · exact hp.elim
end
end VT
namespace RV
open PySem PySem.Spec PyProof.Rows
section
variable {prog:Program} {w:World} {A:Around} {E:Value→Shared→Prop} {s:Shared}
end
section
variable {prog:Program} {w:World} {A:Around} {s:Shared} {R:Result→Shared→Prop}
variable {I:Addr} {fp wr:List Addr} {G:Array GenState→Array GenState→Prop} {n:Nat} {P:Nat→Value→Prop} {St:Nat→Shared→Prop}
noncomputable def Ends (prog:Program) (w:World) (A:Around) (I:Addr) (wr:List Addr) (G:Array GenState→Array GenState→Prop) (n:Nat) (St:Nat→Shared→Prop):Prop :=
 ∀ (s:Shared) (Q:Option Value→Shared→Prop) (E:Value→Shared→Prop),St n s→(∀ s',Moved wr G s s'→(∃ o,s'.heap.get? I=some o)→Q none s')→wpAny (model prog w) A (pyNext (.ref I)) Q E s
end
section
variable {prog:Program} {w:World} {A:Around} {E:Value→Shared→Prop} {s:Shared}
variable {I:Addr} {fp wr:List Addr} {G:Array GenState→Array GenState→Prop} {n:Nat} {P:Nat→Value→Prop} {St:Nat→Shared→Prop}
end
end RV
namespace RV
open PySem PySem.Spec PyProof.Rows
section
variable {prog:Program} {w:World} {A:Around} {E:Value→Shared→Prop} {s:Shared}
end
end RV
namespace VT
open PySem PySem.Spec PyProof.Rows L2
section
variable {X:Cx}
end
section
variable {X:Cx} {Z:Zc} {a:Expr} {fa:FE} {p1 p2 pos1 pos2:Pos}
end
end VT
namespace VT
open PySem PySem.Spec PyProof.Rows L2
theorem u1_of {n:Nat} (h:n+101 < cLine):n+1 < cLine:=by omega
section
variable {X:Cx} {Z:Zc} {ek ev:Expr} {fk fv:FE} {pos:Pos}
end
end VT
namespace VT
open PySem PySem.Spec PyProof.Rows L2
section
variable {X:Cx} {Z:Zc} {e c:Expr} {fe fc:FE} {x:Str} {p apos cpos:Pos} {a:Addr} {l:List (Str×T)}
end
end VT
namespace VT
open PySem PySem.Spec PyProof.Rows L2
section
variable {X:Cx}
theorem sorted_laid {pins:List (Addr×Obj)} {σ:St} {H:Hp} {s:Shared} {us:List Value} {out:Array Value} {xs:List V} {Q:VK} (I:Inv X pins σ H s) (hx:Vals xs out.toList) (hl:xs.length≤sizeLine) (q:∀ a,H a=none→Q (.ref a) (upd H a (.lst xs))) :
  EP X pins σ Q (.ref (s.heap.objs.size+1)) { s with heap:=sortedAll s.heap us out }:=by
 obtain ⟨e,he⟩:=sortedAll_at s.heap us out
 refine ⟨.ref (s.heap.objs.size+1),_,I.laid (a:=s.heap.objs.size+1) (o:=.lst xs) (t':=s.toks) (fun b o h=>sortedAll_old h) (Nat.le_succ _) ⟨hl,out.toList,e,hx,?_⟩,rfl,q _ (I.hok.fresh (Nat.le_succ _))⟩
 rw [he]
end
section
variable {K:PySem.W.Frag} {H:Hp} {A:List Addr}
end
end VT
namespace VT
open PySem PySem.Spec PyProof.Rows L2
section
variable {X:Cx}
end
section
variable {X:Cx} {Z:Zc} {a b e:Expr} {fa fb:FE} {pos:Pos}
end
noncomputable abbrev FPs:=En→(List (Key×T)→Prop)→Prop
section
variable {X:Cx} {Z:Zc} {ek ev:Expr} {fk fv:FE} {pos:Pos} {keys:List (Option Expr)} {values:List Expr} {f:FPs}
variable {e:Expr} {apos cpos:Pos}
end
end VT
namespace VT
open PySem PySem.Spec PyProof.Rows L2
section
variable {X:Cx}
end
section
variable {X:Cx} {Z:Zc} {a b:Expr} {fa fb:FE} {pos:Pos}
end
end VT
namespace VT
open PySem PySem.Spec PyProof.Rows L2
section
variable {X:Cx} {Z:Zc}
theorem mt_setd:MtR X "dict.setdefault" (fun x xs H Q=>∃ (a:Addr) (kvs:List (Key×V)) (k:Key) (v:V),x = .ref a∧xs=[kV k,v]∧H a=some (.dK kvs)∧kvs.length < sizeLine ∧
  (∀ u,valV kvs k=some u→Q u H)∧(valV kvs k=none→Q v (upd H a (.dK (L2.putK kvs k v))))):=by
 intro pins s σ H x xs v us Q I rx rs h
 obtain ⟨a,kvs,k,y,rfl,rfl,ha,hsz,q1,q2⟩:=h
 cases rx
 obtain ⟨u1,u2,rfl,ru1,ru2⟩:∃ u1 u2,us=[u1,u2]∧RelV (kV k) u1∧RelV y u2:=by
  cases rs with
  | cons r1 t=>cases t with
    | cons r2 t2=>cases t2; exact ⟨_,_,rfl,r1,r2⟩
 obtain ⟨z,hd,vs,rel,dd⟩:=dk_of I.hok ha
 refine call_meetsIn PySem.F.slot_dict_setdefault dd.typeIs PySem.F.entry_dict_setdefault (PySem.F.args_dict_setdefault_3 _ _ _) (kt_meets_setdefault (mixKind X.prog X.w) a (kV_is ru1) hd u2) ⟨vs,dd,by rw [← rel.length]; omega,fun v0 hv=>?_,fun hn h' dd' hs=>?_⟩
 · have hv':=rel.val k
   rw [hv] at hv'
   cases e:valV kvs k with
   | none=>rw [e] at hv'; cases hv'
   | some w0 =>
     rw [e] at hv'
     have hr:RelV w0 v0:=hv'
     exact ⟨w0,H,I.tok _,hr,q1 w0 e⟩
 · have hv':=rel.val k
   rw [hn] at hv'
   cases e:valV kvs k with
   | some w0=>rw [e] at hv'; cases hv'
   | none =>
     have he:∃ q,h'.get? a=some q:=let ⟨q,_,_,hq,_⟩:=dd'; ⟨q,hq⟩
     have hl:(L2.putK kvs k y).length≤sizeLine:=by have:=length_putK kvs k y; omega
     exact ⟨y,_,d_write (t':=s.toks+1) I (by rw [ha]; exact True.intro) hs he (dk_new hl hd (rel.put k ru2) dd'),ru2,q2 e⟩
end
section
variable {X:Cx} {Z:Zc} {e1 e2:Expr} {f1 f2:FE} {apos cpos:Pos}
noncomputable def fSetd (n:Nat) (f1 f2:FE):FX:=fun ρ Q=>match ρ[n]? with
 | some (some (.dk ks ts,true))=>f1 ρ fun x=>f2 ρ fun y=>match keyT x with
   | some k=>ts.length < 16777216∧match dGet ks ts k with
     | some t=>Q ρ (.vw t)
     | none=>Q (ρ.set n (some (.dk (ks ++ [k]) (ts ++ [y]),true))) (.vw y)
   | none=>False
 | _=>False
theorem vx_setd (n:Nat) {x:Str} {p:Pos} (h1:VE X Z e1 f1) (h2:VE X Z e2 f2)
  (hN:X.N[n]?=some x:=by rfl) (hv:Vis X.env.scope x:=by first | exact Or.inl rfl | exact Or.inr (Or.inl rfl) | exact Or.inr (Or.inr rfl)) (hd:(x == ("__debug__" : Str))=false:=by decide)
  (hcd:(x == ("__classdict__" : Str))=false:=by decide) (hbase:attributeBase (.Name x p) "setdefault" X.env (eval (.Name x p) X.env)=eval (.Name x p) X.env:=by rfl)
  (hfew:((backTo cpos (starEach [e1,e2] X.env)).all (fun x=>!x.1) && (backToKw cpos (keywordEach [] X.env)).all (fun x=>x.1.isSome)
    && decide (([e1,e2]:List Expr).length+([]:List Keyword).length+(if ([]:List Keyword).isEmpty then 0 else 1) < 30))=true:=by rfl)
  (hline:(apos.endLine == cpos.line)=true:=by rfl) (hs:starEach [e1,e2] X.env=(false,eval e1 X.env) :: starEach [e2] X.env:=by rfl) (hs2:starEach [e2] X.env=(false,eval e2 X.env) :: starEach [] X.env:=by rfl)
  (hplain:(backTo cpos (starEach [e2] X.env)).any (·.1)=false:=by rfl) :
  VX X Z (.Call (.Attribute (.Name x p) "setdefault" apos) [e1,e2] [] cpos) (fSetd n f1 f2):=.mk fun tm =>
 PE.weak (pe_bm PySem.F.plainAttrs_dict PySem.F.slot_dict_setdefault PySem.F.type_dict_setdefault mt_setd (pe_var hN hv hd hcd) (pa_cons (h1 tm) (pa_cons (h2 tm) pa_nil hs2) hs) hbase hfew hline hs hplain) fun σ H Q ⟨ρ,O,q,I,hf,kk⟩=>by
  unfold fSetd at hf
  split at hf
  · rename_i ks ts e0
    obtain ⟨l,g1,g2,xs,hl,g3,g4⟩:=I.root e0
    have ha:l∈av Z O:=List.mem_append_left _ (mem_roots.mpr (List.mem_of_getElem? g1))
    refine ⟨.ref l,g2,.inr (.inr (.inl ⟨rfl,.inl ⟨_,g3⟩⟩)),ρ,O,_,I,hf,fun t ht v H1 s1 a1=>⟨ρ,O,_,I.same s1,ht,fun y hy w H2 s2 a2=>?_⟩⟩
    split at hy
    · rename_i kk' ek
      obtain ⟨hlen,hy⟩:=hy
      have ev:v=kV kk':=keyT_at (.inl a1) ek
      subst ev
      have hz:(ks.zip xs).length < sizeLine:=by
       rw [sizeLine_eq,List.length_zip,hl,Nat.min_self,g4.length]
       omega
      have J:=(I.same s1).same s2
      have b4:=(g4.same s1).same s2
      refine ⟨l,ks.zip xs,kk',w,rfl,rfl,s2 _ _ (s1 _ _ g3),hz,fun u hu=>?_,fun hn=>?_⟩
      · rw [dGet_val] at hu
        cases eg:dGet ks ts kk' with
        | none=>rw [(dGet_at b4).2 eg] at hu; cases hu
        | some t0 =>
          rw [eg] at hy
          obtain ⟨v0,e1,e2⟩:=(dGet_at b4).1 t0 eg
          rw [e1] at hu
          cases hu
          exact kk _ _ hy O _ _ ⟨J,e2⟩
      · rw [dGet_val] at hn
        cases eg:dGet ks ts kk' with
        | some t0 =>
          obtain ⟨v0,e1,e2⟩:=(dGet_at b4).1 t0 eg
          rw [e1] at hn
          cases hn
        | none =>
          rw [eg] at hy
          have e1:L2.putK (ks.zip xs) kk' w=(ks ++ [kk']).zip (xs ++ [w]):=by
           rw [putK_new _ (by rw [dGet_val]; exact hn),List.zip_append hl]
           rfl
          rw [e1]
          refine kk _ _ hy O _ _ ⟨J.wrote e0 g1 ⟨xs ++ [w],by simp [hl],upd_same,?_⟩,a2.wrote ha (s2 _ _ (s1 _ _ g3)) rfl⟩
          exact (b4.append (AtL.cons a2 AtL.nil)).wrote ha (s2 _ _ (s1 _ _ g3)) rfl
    · exact hy.elim
  · exact hf.elim
end
end VT
namespace VT
open PySem PySem.Spec PyProof.Rows L2
noncomputable def inGet {α:Type} (f:Str):List Str→List α→Option α
 | n :: ns,t :: ts=>match f == n with
   | true=>some t
   | false=>inGet f ns ts
 | _,_=>none
noncomputable def inNs (f:Str):List Str→List Str
 | []=>[f]
 | n :: ns=>if n=f then n :: ns else n :: inNs f ns
noncomputable def inTs {α:Type} (f:Str) (u:α):List Str→List α→List α
 | n :: ns,t :: ts=>if n=f then u :: ts else t :: inTs f u ns ts
 | _,_=>[u]
theorem lookup_zip (f:Str):∀ (ns:List Str) (vs:List V),(ns.zip vs).lookup f=inGet f ns vs
 | [],vs=>by cases vs <;> rfl
 | n :: ns,[]=>rfl
 | n :: ns,v :: vs=>by
   rw [List.zip_cons_cons,List.lookup_cons]
   unfold inGet
   cases f == n with
   | true=>rfl
   | false=>exact lookup_zip f ns vs
theorem putF_zip (f:Str) (y:V):∀ (ns:List Str) (vs:List V),ns.length=vs.length→putF f y (ns.zip vs)=(inNs f ns).zip (inTs f y ns vs)∧(inNs f ns).length=(inTs f y ns vs).length
 | [],[],_=>⟨rfl,rfl⟩
 | [],v :: vs,h=>by simp at h
 | n :: ns,[],h=>by simp at h
 | n :: ns,v :: vs,h=>by
   have ih:=putF_zip f y ns vs (by simpa using h)
   rw [List.zip_cons_cons]
   show (if n=f then (n,y) :: ns.zip vs else (n,v) :: putF f y (ns.zip vs))=_∧_
   unfold inNs inTs
   by_cases e:n=f
   · rw [if_pos e,if_pos e,if_pos e]; exact ⟨rfl,by simpa using h⟩
   · rw [if_neg e,if_neg e,if_neg e,ih.1]; exact ⟨rfl,by simp [ih.2]⟩
section
variable {K:PySem.W.Frag} {H:Hp} {A:List Addr} {f:Str}
theorem inGet_at:∀ {ns:List Str} {ts:List T} {vs:List V} {t:T},AtL K H A ts vs→inGet f ns ts=some t→∃ v,inGet f ns vs=some v∧At K H A t v
 | [],ts,vs,t,_,e=>by cases ts <;> cases e
 | n :: ns,[],vs,t,_,e=>by cases e
 | n :: ns,t0 :: ts,vs,t,h,e=>by
   simp only [AtL] at h
   obtain ⟨v,r,rfl,h1,h2⟩:=h
   unfold inGet at e ⊢
   cases q:f == n with
   | true=>rw [q] at e; cases e; exact ⟨v,rfl,h1⟩
   | false=>rw [q] at e; exact inGet_at h2 e
theorem inTs_at:∀ {ns:List Str} {ts:List T} {vs:List V} {t:T} {v:V},AtL K H A ts vs→At K H A t v→AtL K H A (inTs f t ns ts) (inTs f v ns vs)
 | [],ts,vs,t,v,_,q=>by
   have e1:inTs f t [] ts=[t]:=by cases ts <;> rfl
   have e2:inTs f v [] vs=[v]:=by cases vs <;> rfl
   rw [e1,e2]; exact AtL.cons q AtL.nil
 | n :: ns,[],vs,t,v,h,q=>by
   simp only [AtL] at h
   subst h
   exact AtL.cons q AtL.nil
 | n :: ns,t0 :: ts,vs,t,v,h,q=>by
   simp only [AtL] at h
   obtain ⟨v0,r,rfl,h1,h2⟩:=h
   unfold inTs
   by_cases e:n=f
   · rw [if_pos e,if_pos e]; exact AtL.cons q h2
   · rw [if_neg e,if_neg e]; exact AtL.cons h1 (inTs_at h2 q)
end
section
variable {X:Cx} {Z:Zc} {e:Expr} {es:List Expr} {C:Addr} {f:Str} {pos:Pos}
noncomputable def fFld (C:Addr) (f:Str) (fe:FE):FP:=fun ρ Q=>fe ρ fun t=>match t with
 | .ins C' ns ts=>C'=C∧∃ u,inGet f ns ts=some u∧Q (.vw u)
 | _=>False
theorem vp_fld {fe:FE} (cl:Cls X.K C) (na:NoAttr X.K C f) (h:VR X Z e fe) (hb:attributeBase e f X.env (eval e X.env)=eval e X.env:=by rfl):VP X Z (.Attribute e f pos) (fFld C f fe):=.mk fun tm =>
 PE.weak (pe_fld (h tm) hb) fun σ H Q ⟨ρ,O,q,I,hf,k⟩=>⟨ρ,O,_,I,hf,fun t ht v H1 s1 a1=>by
  split at ht
  · rename_i C' ns ts
    obtain ⟨rfl,u,e1,hq⟩:=ht
    obtain ⟨a,dx,vs,rfl,hl,hd,hv⟩:=a1.ins
    obtain ⟨w,e2,e3⟩:=inGet_at hv e1
    exact ⟨a,_,dx,_,w,rfl,hd,cl,na,by rw [lookup_zip]; exact e2,k _ hq _ H1 s1 ⟨I.same s1,e3⟩⟩
  · exact ht.elim⟩
noncomputable def gFld (n:Nat) (C:Addr) (f:Str) (fe:FE):FS:=fun d ρ=>match ρ[n]? with
 | some (some (.ins C' ns ts,true))=>C'=C∧fe ρ fun v=>ts.length < 1000∧d.nx (ρ.set n (some (.ins C' (inNs f ns) (inTs f v ns ts),true)))
 | _=>False
theorem vs_fld (n:Nat) {x:Str} {p tpos:Pos} {fe:FE} (cl:Cls X.K C) (na:NoAttr X.K C f) (he:VE X Z e fe)
  (hN:X.N[n]?=some x:=by rfl) (hv:Vis X.env.scope x:=by first | exact Or.inl rfl | exact Or.inr (Or.inl rfl) | exact Or.inr (Or.inr rfl)) (hd:(x == ("__debug__" : Str))=false:=by decide)
  (hcd:(x == ("__classdict__" : Str))=false:=by decide) (hs:swapsWith e (some (.Attribute (.Name x p) f tpos)) pos.line X.env=pure false:=by rfl) :
  VS X Z (.Assign [.Attribute (.Name x p) f tpos] e pos) (gFld n C f fe):=.mk fun tm =>
 PS.weak (ps_fld (pe_var hN hv hd hcd) (he tm) hs) fun D σ H ⟨ρ,O,d,I,q,F⟩=>by
  unfold gFld at q
  split at q
  · rename_i C' ns ts e0
    obtain ⟨rfl,q⟩:=q
    obtain ⟨l,h1,h2,dx,xs,hl,h3,h4⟩:=I.root e0
    have ha:l∈av Z O:=List.mem_append_left _ (mem_roots.mpr (List.mem_of_getElem? h1))
    refine ⟨ρ,O,_,I,q,fun t ht v H1 s1 a1=>⟨.ref l,h2,l,_,dx,_,rfl,s1 _ _ h3,cl,na,?_,?_⟩⟩
    · rw [List.length_zip,hl,Nat.min_self,h4.length]; exact ht.1
    · have pz:=putF_zip f v ns xs hl
      rw [pz.1]
      refine F.nx O _ σ _ ((I.same s1).wrote (t':=.ins _ (inNs f ns) (inTs f t ns ts)) e0 h1 ⟨dx,inTs f v ns xs,pz.2,upd_same,?_⟩) ht.2
      exact AtL.wrote ha (s1 _ _ h3) rfl (inTs_at (h4.same s1) a1)
  · exact q.elim
noncomputable def spI (K:PySem.W.Frag) (C:Addr) (n:Nat) (G:List T→(T→Prop)→Prop):Sp:=spOf K (true :: List.replicate n false) fun ts q=>match ts with
 | .ins C' [] [] :: us=>C'=C∧G us fun u=>q [u] (.vw .non)
 | _=>False
noncomputable def fMake (n:Nat) (g:FA) (G:List T→(T→Prop)→Prop):FP:=fun ρ Q=>g ρ fun ts=>ts.length=n∧G ts fun u=>Q (.fr u)
theorem make_ok {n:Nat} {G:List T→(T→Prop)→Prop} {tm:List (T×V)} {O:List (Option Addr)} {ρ:En} {σ:St} {H:Hp} {ts:List T} {vs:List V} {q:Rt→Prop} {Q:VK} (I:EnvAt X.K Z tm O ρ σ H) (a:AtL X.K H (av Z O) ts vs) (hn:ts.length=n) (hG:G ts fun u=>q (.fr u))
  (k:∀ r,q r→∀ v H',Same H H'→RetX X.K Z tm O ρ σ H' r v→Q v H'):∀ x dx,H x=none→H dx=none→dx≠x→spI X.K C n G (.ref x :: (vs ++ [])) (upd (upd H dx (.own x)) x (.ins C dx [])) (fun v H2=>v = .non∧Q (.ref x) H2) E0:=by
 intro x dx hx hdx hne
 rw [List.append_nil]
 obtain ⟨n1,n2,n3⟩:=I.fresh hx
 have s0:Same H (upd (upd H dx (.own x)) x (.ins C dx [])):=fun b o e=>by
  rw [upd_ne (ne_of_none e hx),upd_ne (ne_of_none e hdx)]; exact e
 have a1:AtL X.K (upd (upd H dx (.own x)) x (.ins C dx [])) ([x] ++ av Z O) ts vs:=(a.more fun b hb=>by
  rcases List.mem_append.mp hb with z | z
  · exact .inr (by rw [List.mem_singleton.mp z]; exact hx)
  · exact .inl z).same s0
 refine ⟨.ins C [] [] :: ts,[x],av Z O,fun us r=>r = .vw .non∧∃ u,us=[u]∧q (.fr u),by simp,fun b hb=>by rw [List.mem_singleton.mp hb]; exact n1,fun b hb=>?_,⟨x,[],_,ts,vs,rfl,rfl,rfl,⟨dx,[],rfl,upd_same,AtL.nil⟩,args_views hn a1⟩,⟨rfl,?_⟩,fun us r hr v H' fr z=>?_⟩
 · cases e:H b with
   | none=>exact absurd e (I.avH b hb)
   | some o=>rw [s0 _ _ e]; simp
 · have w:(fun u=>q (.fr u))=fun u=>((.vw .non:Rt) = .vw .non∧∃ u',[u]=[u']∧q (.fr u')):=by
    funext u
    exact propext ⟨fun h=>⟨rfl,u,rfl,h⟩,fun ⟨_,u',e,h⟩=>by cases e; exact h⟩
   rw [← w]; exact hG
 · obtain ⟨rfl,u,rfl,hq⟩:=hr
   obtain ⟨z1,z2⟩:=z
   simp only [At] at z1
   refine ⟨z1,?_⟩
   cases z2 with
   | cons r _ =>
     have s:Same H H':=fun b o e=>fr b o (s0 b o e) (by rw [List.mem_singleton]; exact ne_of_none e hx)
     obtain ⟨o,eo,_⟩:=r.mut
     refine k _ hq _ H' s ⟨x,rfl,I.newAt hx s eo,r.fewer fun c hc=>?_,n3,n2⟩
     rcases av_ex_sub c hc with z | z
     · exact List.mem_append_right _ z
     · rw [z]; exact List.mem_append_left _ List.mem_cons_self
theorem vp_make {n kk:Nat} {g:FA} {G:List T→(T→Prop)→Prop} {fI:Addr} {fd:FuncData} {ps:List Str} {x:Str} {p:Pos} (M:Mk X.K C fI) (F:FnOk X.prog X.w X.K X.mg X.base CX0 kk fI fd ps (spI X.K C n G)) (hr:Room (kk+1) X.A) (hg:Gl X x) (hm:X.mg x=some (.ref C)) (hb:Binds X.K fd ps []) (ha:VA X Z (e :: es) g)
  (hdb:(x == ("__debug__" : Str))=false:=by decide) (he:starEach (e :: es) X.env=(false,eval e X.env) :: starEach es X.env:=by rfl) (hpl:(backTo pos (starEach es X.env)).any (·.1)=false:=by rfl) :
  VP X Z (.Call (.Name x p) (e :: es) [] pos) (fMake n g G):=.mk fun tm=>PE.weak (pe_make M F hr hg hm hb .nil pass0 (ha tm) hdb he hpl) fun σ H Q ⟨ρ,O,q,I,hf,k⟩ =>
 ⟨ρ,O,_,I,hf,fun ts hts vs H1 s1 a1=>make_ok (I.same s1) a1 hts.1 hts.2 fun r hr v H' s z=>k r hr v H' (s1.trans s) z⟩
end
structure Dc (K:PySem.W.Frag) (mg:Str→Option Value) (cls qual:Str) (st:Stmt) (ps:List Str) (C f:Addr) (fd:FuncData):Prop where
 F:Fun K "__init__" qual st f fd
 m:mg cls=some (.ref C)
 b:Binds K fd ps []
 M:Mk K C f
noncomputable def CalC (P:Program) (w:World) (K:PySem.W.Frag) (mg:Str→Option Value) (base:Heap) (cls:Str) (C:Addr) (ps:List Str) (k n:Nat) (G:List T→(T→Prop)→Prop):Prop :=
 ∃ f fd,Mk K C f∧mg cls=some (.ref C)∧Binds K fd ps []∧FnOk P w K mg base CX0 k f fd ps (spI K C n G)
section
variable {P:Program} {w:World} {K:PySem.W.Frag} {mg:Str→Option Value} {base:Heap}
theorem Dc.cal {cls qual:Str} {st:Stmt} {ps:List Str} {C f:Addr} {fd:FuncData} {k n:Nat} {G:List T→(T→Prop)→Prop} (D:Dc K mg cls qual st ps C f fd) (F:FnOk P w K mg base CX0 k f fd ps (spI K C n G)):CalC P w K mg base cls C ps k n G :=
 ⟨f,fd,D.M,D.m,D.b,F⟩
theorem fnI {x qual:Str} {st:Stmt} {f C:Addr} {fd:FuncData} {N ps:List Str} {k n:Nat} {G:List T→(T→Prop)→Prop} (F:Fun K x qual st f fd) (S:FnScope N ps (defScope st)) (hn:n+1=ps.length)
  (hbody:∀ (cdv:Value) (A:Around) (outer:List Env) (s:Shared) (H:Hp) (E:XK) (as Ox:List Addr),Room k (A.deeper (envOfC qual (defScope st) s.heap.objs.size f cdv))→∀ (us:List T) (q:List T→Rt→Prop),us.length=n→G us (fun u=>q [u] (.vw .non)) →
    ∃ g,VSs (cxOf CX0 P w K mg base N qual (defScope st) f cdv A outer s H E).nox ⟨H,pz (true :: List.replicate n false) as 0,Ox⟩ (defBody st) g ∧
     g { nx:=fun ρ=>q (fins (true :: List.replicate n false) ρ) (.vw .non),rt:=fun ρ r=>q (fins (true :: List.replicate n false) ρ) r } (some (.ins C [] [],true) :: en0 (List.replicate n false) us ++ List.replicate (N.length - (us.length+1)) none)) :
  FnOk P w K mg base CX0 (k+1) f fd ps (spI K C n G) :=
 fnV F S (by rw [← hn]; simp) fun cdv A outer s H E as Ox hr ts q hl hG=>by
  cases ts with
  | nil=>exact hG.elim
  | cons t us=>cases t with
    | ins C' ns vs=>cases ns with
      | nil=>cases vs with
        | nil =>
          obtain ⟨e,hG'⟩:=hG
          subst e
          exact hbody cdv A outer s H E as Ox hr us q (by simpa using hl) hG'
        | cons _ _=>exact hG.elim
      | cons _ _=>exact hG.elim
    | _=>exact hG.elim
end
end VT
namespace VT
open PySem PySem.Spec PyProof.Rows L2
noncomputable def valsO (a d:Addr):HO:=.ext fun h=>h.get? a=some { cls:=.type "dict_values",data:=.fields #[.ref d] }
theorem best_min (val:Nat→Int):∀ k,∃ j≤k,argBest (fun i j=>decide (val i < val j)) k=j∧∀ i≤k,val j≤val i
 | 0=>⟨0,Nat.le_refl _,rfl,fun i hi=>by rw [Nat.le_zero.mp hi]; exact Int.le_refl _⟩
 | k+1=>by
   obtain ⟨j,hj,e,h⟩:=best_min val k
   unfold argBest
   rw [e]
   by_cases q:val (k+1) < val j
   · rw [if_pos (decide_eq_true q)]
     refine ⟨k+1,Nat.le_refl _,rfl,fun i hi=>?_⟩
     rcases Nat.lt_or_eq_of_le hi with l | l
     · exact Int.le_trans (Int.le_of_lt q) (h i (Nat.le_of_lt_succ l))
     · rw [l]; exact Int.le_refl _
   · rw [if_neg (by rw [decide_eq_true_eq]; exact q)]
     refine ⟨j,Nat.le_succ_of_le hj,rfl,fun i hi=>?_⟩
     rcases Nat.lt_or_eq_of_le hi with l | l
     · exact h i (Nat.le_of_lt_succ l)
     · rw [l]; exact Int.not_lt.mp q
section
variable {X:Cx}
theorem mt_values:MtR X "dict.values" (fun x xs H Q=>∃ (d:Addr) (kvs:List (Key×V)),x = .ref d∧xs=[]∧H d=some (.dK kvs)∧∀ a,H a=none→Q (.ref a) (upd H a (valsO a d))):=by
 intro pins s σ H x xs v us Q I rx rs h
 obtain ⟨d,kvs,rfl,rfl,hd,q⟩:=h
 cases rx
 cases rs
 obtain ⟨z,hs,vs,rel,dd⟩:=dk_of I.hok hd
 refine call_meetsIn PySem.F.slot_dict_values dd.typeIs PySem.F.entry_dict_values (PySem.F.args_dict_values_1 _) (meets_dict_values (mixKind X.prog X.w) d hs) ⟨⟨vs,dd⟩,?_⟩
 refine ⟨.ref s.heap.objs.size,_,I.laid (a:=s.heap.objs.size) (t':=s.toks) (fun b o e=>Heap.get?_push_of_some _ e) (Nat.le_refl _) ?_,rfl,q _ I.fresh⟩
 exact ⟨Heap.get?_push_size _ rfl,⟨_,Heap.get?_push_size _ rfl⟩,fun h1 h2 z k=>k _ z⟩
theorem call_minvals (hc:X.calm=true):CallR X (.builtin "min") (fun xs H Q=>∃ (a d:Addr) (kvs:List (Key×V)) (is:List Int),xs=[.ref a]∧H a=some (valsO a d)∧H d=some (.dK kvs)∧kvs.map (·.2)=is.map V.int∧is≠[]∧∀ m,m∈is→(∀ i∈is,m≤i)→Q (.int m) H):=by
 intro pins s σ H xs us Q I r h
 obtain ⟨a,d,kvs,is,rfl,ha,hd,hv,hne,q⟩:=h
 obtain ⟨u,rfl,ru⟩:=vals1 r
 cases ru
 obtain ⟨z,hs,vs,rel,dd⟩:=dk_of I.hok hd
 obtain ⟨hA,_,_⟩:=(show ObjOk X.prog X.w H s.heap a (valsO a d) from I.hok a _ ha)
 obtain ⟨ep,da⟩:=dd.dictAt
 have hh:X.A.in1.handled=none:=by simp [I.ok.hd hc]
 have hlen:vs.length=is.length:=by
  have:=congrArg List.length hv
  rw [List.length_map,List.length_map] at this
  rw [← rel.length]; exact this
 have hval:∀ (i:Nat) (v:Value),(∃ k,vs[i]?=some (k,v))→∃ t,v = .int (is.getD i 0) t:=by
  intro i v ⟨k,e⟩
  have hi:i < vs.length:=(List.getElem?_eq_some_iff.mp e).1
  have hi2:i < kvs.length:=by rw [rel.length]; exact hi
  have e1:kvs[i]?=some kvs[i]:=by simp [hi2]
  have key:∀ {l₁:List (Key×V)} {l₂:List (Key×Value)} {i:Nat} {p:Key×V} {q:Key×Value},KV l₁ l₂→l₁[i]?=some p→l₂[i]?=some q→RelV p.2 q.2:=by
   intro l₁ l₂ i p q h
   unfold KV at h
   induction h generalizing i with
   | nil=>intro e; simp at e
   | cons r t ih =>
     intro e e'
     cases i with
     | zero=>simp at e e'; subst e; subst e'; exact r.2
     | succ i=>exact ih (by simpa using e) (by simpa using e')
  have rr:=key rel e1 e
  have e2:(kvs.map (·.2))[i]?=some kvs[i].2:=by rw [List.getElem?_map,e1]; rfl
  rw [hv,List.getElem?_map] at e2
  cases q2:is[i]? with
  | none=>rw [q2] at e2; cases e2
  | some m =>
    rw [q2] at e2
    have e3:kvs[i].2=V.int m:=(Option.some.inj e2).symm
    rw [e3] at rr
    obtain ⟨t,et⟩:=rr
    exact ⟨t,by rw [List.getD_eq_getElem?_getD,q2]; exact et⟩
 have hn0:0 < vs.length:=by rw [hlen]; exact List.length_pos_iff.mpr hne
 refine call_min_walk (wpAny_pyIter_values ⟨_,hA,rfl,rfl⟩ da ?_)
 refine ⟨_,_,_,_,_,_,_,rfl,Walks.dictValues hh _ d (Nat.ne_of_lt da.lt_size) vs ep,⟨⟨_,Heap.get?_push_size _ rfl,rfl,rfl⟩,da.push _⟩,fun b hb=>?_,hn0,CmpOf.ints_lt (fun i=>is.getD i 0) hval,fun v h' tk hP hk=>?_⟩
 · show b < (s.heap.push _).objs.size
   rw [Heap.size_push]
   rcases List.mem_cons.mp hb with rfl | hb
   · exact Nat.lt_succ_self _
   · rw [List.mem_singleton.mp hb]; exact Nat.lt_succ_of_lt da.lt_size
 · obtain ⟨j,hj,e,hm⟩:=best_min (fun i=>is.getD i 0) (vs.length - 1)
   rw [e] at hP
   obtain ⟨t,rfl⟩:=hval j v hP
   have hjl:j < is.length:=by omega
   refine ⟨.int (is.getD j 0),H,I.kept (t':=tk) fun b u eb=>hk b u (fun z=>?_) (Heap.get?_push_of_some _ eb),⟨t,rfl⟩,q _ ?_ fun i hi=>?_⟩
   · rw [List.mem_singleton.mp z] at eb
     exact absurd (Heap.lt_size eb) (Nat.lt_irrefl _)
   · rw [List.getD_eq_getElem?_getD,List.getElem?_eq_getElem hjl]; exact List.getElem_mem hjl
   · obtain ⟨n,hn⟩:=List.mem_iff_getElem?.mp hi
     have hnl:n < is.length:=(List.getElem?_eq_some_iff.mp hn).1
     have:=hm n (by omega)
     have e5:is.getD n 0=i:=by rw [List.getD_eq_getElem?_getD,hn]; rfl
     rw [e5] at this
     exact this
end
section
variable {X:Cx} {Z:Zc} {a:Expr} {fa:FE} {p1 apos pos1 pos2:Pos}
noncomputable def fMinV (fa:FE):FP:=fun ρ Q=>fa ρ fun x=>match x with
 | .dk ks ts=>∃ is,ts=is.map T.int∧is≠[]∧∀ m,m∈is→(∀ i∈is,m≤i)→Q (.vw (.int m))
 | _=>False
theorem vp_minvals (hc:X.calm=true) (hgl:Gl X "min") (hml:X.mg "min" = none) (ha:VR X Z a fa)
  (hbase:attributeBase a "values" X.env (eval a X.env)=eval a X.env:=by rfl) (hline:(apos.endLine == pos2.line)=true:=by rfl)
  (he:starEach [.Call (.Attribute a "values" apos) [] [] pos2] X.env=(false,eval (.Call (.Attribute a "values" apos) [] [] pos2) X.env) :: starEach [] X.env:=by rfl) (hpl:(backTo pos1 (starEach [] X.env)).any (·.1)=false:=by rfl) :
  VP X Z (.Call (.Name "min" p1) [.Call (.Attribute a "values" apos) [] [] pos2] [] pos1) (fMinV fa):=.mk fun tm =>
 PE.weak (pe_callB (call_minvals hc) hgl hml b_min (pa_cons (pe_bm0 PySem.F.plainAttrs_dict PySem.F.slot_dict_values PySem.F.type_dict_values mt_values (ha tm) hbase hline) pa_nil he) (by decide) (by decide) he hpl) fun σ H Q ⟨ρ,O,q,I,hf,k⟩ =>
  ⟨ρ,O,_,I,hf,fun x hx v H1 s1 a1=>by
    split at hx
    · rename_i ks ts
      obtain ⟨is,rfl,hne,hq⟩:=hx
      obtain ⟨d,vs,rfl,hl,hd,hv⟩:=a1.dk
      refine ⟨.inr (.inr (.inl ⟨rfl,.inl ⟨_,hd⟩⟩)),d,_,rfl,rfl,hd,fun b hb=>?_⟩
      have sb:Same H1 (upd H1 b (valsO b d)):=same_upd hb
      have ev:vs=is.map V.int:=by
       clear hq hne hl hd a1
       induction is generalizing vs with
       | nil=>simpa only [List.map_nil,AtL] using hv
       | cons i is ih =>
         simp only [List.map_cons,AtL,At] at hv
         obtain ⟨v,r,rfl,rfl,h2⟩:=hv
         rw [ih r h2]; rfl
      subst ev
      refine ⟨b,d,_,is,rfl,upd_same,sb _ _ hd,?_,hne,fun m h1 h2=>k _ (hq m h1 h2) _ _ (s1.trans sb) ⟨(I.same s1).same sb,at_int⟩⟩
      rw [List.map_snd_zip]
      rw [hl]; exact Nat.le_refl _
    · exact hx.elim⟩
end
end VT
namespace Lay
open PySem L2 VT Gen K5
noncomputable def fdT (l:List (Str×Nat)):T:=.dk (l.map fun p=>(Sum.inr p.1:Key)) (l.map fun p=>T.int (p.2:Int))
theorem fd_get (l:List (Str×Nat)) (f:Str):dGet (l.map fun p=>(Sum.inr p.1:Key)) (l.map fun p=>T.int (p.2:Int)) (Sum.inr f)=(alk l f).map fun i=>T.int (i:Int):=by
 induction l with
 | nil=>rfl
 | cons p l ih =>
   obtain ⟨k,i⟩:=p
   simp only [List.map_cons,dGet,alk]
   by_cases h:k=f
   · rw [if_pos h,if_pos (by rw [h])]; rfl
   · rw [if_neg h,if_neg (fun z=>h (Sum.inr.inj z))]; exact ih
theorem firstL_len (rs:List Rw):∀ n,(firstL rs n).length≤n
 | 0=>Nat.le_refl _
 | n+1=>by
   have:=firstL_len rs n
   simp only [firstL]
   split
   · rename_i r _
     cases r <;> simp only [fdS] <;> first
      | omega
      | (split <;> simp <;> omega)
   · omega
noncomputable def isDf:Rw→Bool
 | .df _ _=>true
 | _=>false
noncomputable def mainN (rs:List Rw):Option Nat:=rs.findIdx? isDf
theorem firstL_df (rs:List Rw):∀ n,∀ p∈firstL rs n,p.2 < n∧∃ ps,rs[p.2]?=some (.df p.1 ps)
 | 0,p,h=>nomatch h
 | n+1,p,h=>by
   have old:p∈firstL rs n→p.2 < n+1∧∃ ps,rs[p.2]?=some (.df p.1 ps):=fun h=>by
    have:=firstL_df rs n p h
    exact ⟨by omega,this.2⟩
   simp only [firstL] at h
   split at h
   · rename_i r hr
     cases r with
     | df g ps =>
       simp only [fdS] at h
       split at h
       · exact old h
       · rcases List.mem_append.mp h with z | z
         · exact old z
         · rw [List.mem_singleton] at z
           subst z
           exact ⟨Nat.lt_succ_self _,ps,hr⟩
     | _=>exact old h
   · exact old h
theorem firstL_none {rs:List Rw} {i:Nat} (h:∀ j,j < i→∀ f ps,rs[j]?≠some (.df f ps)):∀ n≤i,firstL rs n=[]
 | 0,_=>rfl
 | n+1,hn=>by
   simp only [firstL]
   split
   · rename_i r hr
     rw [firstL_none h n (by omega)]
     cases r with
     | df g ps=>exact absurd hr (h n (by omega) g ps)
     | _=>rfl
   · exact firstL_none h n (by omega)
theorem firstL_head {rs:List Rw} {i:Nat} {g:Str} {ps:List Str} (hi:rs[i]?=some (.df g ps)) (h:∀ j,j < i→∀ f ps,rs[j]?≠some (.df f ps)):∀ n,i < n→∃ l,firstL rs n=(g,i) :: l
 | 0,hn=>absurd hn (Nat.not_lt_zero _)
 | n+1,hn=>by
   by_cases e:i=n
   · subst e
     refine ⟨[],?_⟩
     simp only [firstL,hi,fdS]
     rw [firstL_none h i (Nat.le_refl _)]
     rfl
   · obtain ⟨l,hl⟩:=firstL_head hi h n (by omega)
     simp only [firstL]
     rw [hl]
     split
     · rename_i r _
       cases r with
       | df f qs =>
         simp only [fdS]
         split
         · exact ⟨l,rfl⟩
         · exact ⟨l ++ [(f,n)],rfl⟩
       | _=>exact ⟨l,rfl⟩
     · exact ⟨l,rfl⟩
theorem isDf_of {r:Rw} (h:isDf r=true):∃ f ps,r = .df f ps:=by
 cases r with
 | df f ps=>exact ⟨f,ps,rfl⟩
 | _=>cases h
theorem main_some {rs:List Rw} {i:Nat} (h:mainN rs=some i):(∃ f ps,rs[i]?=some (.df f ps))∧∀ j,j < i→∀ f ps,rs[j]?≠some (.df f ps):=by
 unfold mainN at h
 rw [List.findIdx?_eq_some_iff_getElem] at h
 obtain ⟨hl,h1,h2⟩:=h
 obtain ⟨f,ps,e⟩:=isDf_of h1
 refine ⟨⟨f,ps,by rw [List.getElem?_eq_getElem hl,e]⟩,fun j hj f ps e=>?_⟩
 obtain ⟨hjl,ej⟩:=List.getElem?_eq_some_iff.mp e
 have:=h2 j hj
 rw [ej] at this
 exact this rfl
theorem main_none {rs:List Rw} (h:mainN rs=none):∀ (j:Nat) f ps,rs[j]?≠some (Rw.df f ps):=by
 unfold mainN at h
 rw [List.findIdx?_eq_none_iff] at h
 intro j f ps e
 have:=h _ (List.mem_of_getElem? e)
 cases this
theorem firstL_nil {rs:List Rw} (h:mainN rs=none):firstL rs rs.length=[]:=firstL_none (i:=rs.length) (fun j _=>main_none h j) _ (Nat.le_refl _)
theorem main_min {rs:List Rw} {m:Int} (h1:m∈(firstL rs rs.length).map fun p=>(p.2:Int)) (h2:∀ i∈(firstL rs rs.length).map fun p=>(p.2:Int),m≤i):T.int m=oT (mainN rs):=by
 cases e:mainN rs with
 | none=>rw [firstL_nil e] at h1; cases h1
 | some i =>
   obtain ⟨⟨g,ps,hi⟩,hm⟩:=main_some e
   obtain ⟨l,hl⟩:=firstL_head hi hm rs.length (List.getElem?_eq_some_iff.mp hi).1
   obtain ⟨p,hp,rfl⟩:=List.mem_map.mp h1
   obtain ⟨_,qs,hq⟩:=firstL_df rs _ p hp
   have le1:(p.2:Int)≤(i:Int):=h2 _ (List.mem_map.mpr ⟨(g,i),by rw [hl]; exact List.mem_cons_self,rfl⟩)
   have le2:¬ p.2 < i:=fun z=>hm _ z _ _ hq
   have:p.2=i:=by omega
   rw [this]
   rfl
noncomputable def hdsT (rs:List Rw):List T:=(List.range rs.length).map fun i=>oT (hdF (kdR rs) i)
noncomputable def endsT (rs:List Rw):List T:=(List.range rs.length).map fun i=>oT (endsAt (kdR rs) rs.length i)
noncomputable def elsT (rs:List Rw):List T:=elF (kdR rs) rs.length rs.length
noncomputable def homT (rs:List Rw):List T:=(List.range rs.length).map fun i=>oT (hmF (kdR rs) i)
theorem shape_eq (rs:List Rw):shapeT rs=[.lst (hdsT rs),.lst (endsT rs),.lst (elsT rs),.lst (homT rs)]:=rfl
noncomputable def layT (C:Addr) (rs:List Rw):T:=.ins C ["program","heads","ends","elses","homes","defs","main"] [.lst (rs.map rowT),.lst (hdsT rs),.lst (endsT rs),.lst (elsT rs),.lst (homT rs),fdT (firstL rs rs.length),oT (mainN rs)]
section
variable {rs:List Rw} {i:Nat}
theorem row_at {r:Rw} (h:rs[i]?=some r):atI (rs.map rowT) (i:Int)=some (rowT r):=atI_nat (by rw [List.getElem?_map,h]; rfl)
theorem hom_at (h:i < rs.length):atI (homT rs) (i:Int)=some (oT (hmF (kdR rs) i)):=atI_nat (by unfold homT; rw [List.getElem?_map,List.getElem?_range h]; rfl)
end
end Lay
namespace Lay
open PySem L2 VT Gen K5
noncomputable def top (i:Nat):Stmt:=PySem.Challenge.pw_slicewise_k21_names_put_about.main.body.getD i (.Pass ⟨0,0,0,0⟩)
noncomputable abbrev s_first_defs:Stmt:=top 12
structure MgF (mg:Str→Option Value):Prop where
 enumerate:mg "enumerate" = none
noncomputable def gFirst (ts:List T) (q:Rt→Prop):Prop:=∃ rs:List Rw,ts=[.lst (rs.map rowT)]∧rs.length≤100∧q (.fr (fdT (firstL rs rs.length)))
section
variable {P:Program} {w:World} {K:PySem.W.Frag} {mg:Str→Option Value} {base:Heap}
noncomputable abbrev n_first_defs:List Str:=["program","firsts","place","row"]
theorem sc_first_defs:FnScope n_first_defs ["program"] (defScope s_first_defs):=⟨rfl,rfl,rfl,by decide +kernel,rfl,by decide +kernel,by decide +kernel⟩
theorem ok_first_defs {f:Addr} {fd:FuncData} (D:Df K mg "first_defs" s_first_defs ["program"] f fd) (M:MgF mg):Cal P w K mg base "first_defs" ["program"] 1 (spP K 1 gFirst):=by
 refine D.cal (fnP D.F sc_first_defs rfl fun cdv A outer s H E Ox hr ts q hG=>?_)
 have nd:=sc_first_defs.nd
 have hu:=Room.u101 hr
 have np:∀ {i:Nat},NotPar ⟨H,[],Ox⟩ i:=np0
 have npf:∀ {is:List Nat},∀ i∈is,NotPar ⟨H,[],Ox⟩ i:=fun i _=>np0
 have hu1:=u1_of hu
 refine ⟨_,(vss_cons (vs_own (i:=1) nd rfl (Or.inl rfl) (VP.vx vp_dnew) np)
   (vss_cons (vs_for PassesOwn.never rfl (vi_enum (by rfl) M.enumerate (ve_var 0)) (vg_tup (n:=2) rfl (vgs_cons (vg_name (i:=2) nd rfl (Or.inl rfl) np) (vgs_cons (vg_name (i:=3) nd rfl (Or.inl rfl) np) vgs_nil)))
     (vss_one (vs_if (vc_eq hu (VP.vr (vp_ix (vr_var 3) (VP.vr vp_int))) (VP.vr vp_str))
       (vss_one (vs_expr (vx_setd 1 (VP.ve (vp_ix (vr_var 3) (VP.vr vp_int))) (ve_var 2))))
       vss_nil)))
   (vss_one (vs_ret (vx_give 1 np))))),fun _=>?_⟩
 obtain ⟨rs,rfl,hn,hq⟩:=hG
 refine loop_enum (fun i ρ=>∃ b2 b3,ρ=[some (.lst (rs.map rowT),false),some (fdT (firstL rs i),true),b2,b3]) ⟨_,_,rfl⟩ ?_ ?_
 · rintro i r ρ hr ⟨b2,b3,rfl⟩
   have hi:=(List.getElem?_eq_some_iff.mp hr).1
   have hlen:((firstL rs i).map fun p=>T.int (p.2:Int)).length < 16777216:=by
    rw [List.length_map]; have:=firstL_len rs i; omega
   have es:firstL rs (i+1)=fdS (firstL rs i) i r:=by simp only [firstL,hr]
   cases r with
   | df g ps =>
     refine ⟨rfl,rfl,_,atI_nat (j:=0) rfl,?_⟩
     refine ⟨_,atI_nat (j:=1) rfl,hlen,?_⟩
     rw [es]
     simp only [fdS]
     rw [fd_get]
     cases ha:alk (firstL rs i) g with
     | some j=>exact ⟨_,_,rfl⟩
     | none =>
       show ∃ b2 b3,_=[_,some (fdT (firstL rs i ++ [(g,i)]),true),b2,b3]
       have ef:fdT (firstL rs i ++ [(g,i)]) = .dk (((firstL rs i).map fun p=>(Sum.inr p.1:Key)) ++ [Sum.inr g]) (((firstL rs i).map fun p=>T.int (p.2:Int)) ++ [T.int (i:Int)]):=by
        simp only [fdT,List.map_append,List.map_cons,List.map_nil]
       rw [ef]
       exact ⟨_,_,rfl⟩
   | _ =>
     refine ⟨rfl,rfl,_,atI_nat (j:=0) rfl,?_⟩
     rw [es]
     exact ⟨_,_,rfl⟩
 · rintro ρ ⟨b2,b3,rfl⟩
   exact hq
end
end Lay
namespace K5V
open PySem L2 VT Gen K5
noncomputable def top (i:Nat):Stmt:=PySem.Challenge.pw_slicewise_k21_names_put_about.main.body.getD i (.Pass ⟨0,0,0,0⟩)
noncomputable abbrev s_shape:Stmt:=top 13
structure Mg5 (K:PySem.W.Frag) (mg:Str→Option Value):Prop where
 len:mg "len" = none
 range:mg "range" = none
 enumerate:mg "enumerate" = none
 isinstance:mg "isinstance" = none
 int:mg "int" = none
 bool:mg "bool" = none
 tuple:mg "tuple" = none
 list:mg "list" = none
 zip:mg "zip" = none
 CL:∃ a,mg "CLOSERS" = some (.ref a)∧∀ H,SqT K H a [.str "give",.str "end"]
 OP:∃ a,mg "OPENERS" = some (.ref a)∧∀ H,SqT K H a [.str "def",.str "if",.str "while"]
noncomputable def gShape (ts:List T) (q:List T→Prop):Prop:=∃ rs:List Rw,ts=[.lst (rs.map rowT)]∧WFR rs∧rs.length≤100∧q (shapeT rs)
theorem atI_last {l:List T} {t:T} (h:l.getLast?=some t):atI l (-1)=some t:=by
 have hl:0 < l.length:=by cases l <;> simp_all
 rw [List.getLast?_eq_getElem?] at h
 unfold atI ixN
 rw [if_neg (by decide),if_pos (by omega)]
 have e:(-1+(l.length:Int)).toNat=l.length - 1:=by omega
 rw [e]
 exact h
theorem st_len (kd:Nat→Kd):∀ k,(st kd k).length≤k
 | 0=>Nat.le_refl _
 | k+1=>by
   have:=st_len kd k
   simp only [st]
   split <;> split <;> simp <;> omega
theorem le8 {n:Nat} (h:n≤1000):n≤sizeLine:=small h
theorem rep_one (n:Nat) (t:T):(List.replicate n [t]).flatten=List.replicate n t:=by
 induction n with
 | zero=>rfl
 | succ n ih=>rw [List.replicate_succ,List.flatten_cons,ih]; rfl
noncomputable def envS (rs:List Rw) (h e l o s:List T) (k:Nat) (r:Rw):En:=[some (.lst (rs.map rowT),false),some (.lst h,true),some (.lst e,true),some (.lst l,true),some (.lst o,true),some (.lst s,true),some (.int (k:Int),false),some (rowT r,false)]
noncomputable def stT (rs:List Rw) (k:Nat):List T:=(st (kdR rs) k).map fun (j:Nat)=>T.int (j:Int)
noncomputable def InvS (rs:List Rw) (k:Nat) (ρ:En):Prop:=∃ b6 b7 h e l o s,ρ=[some (.lst (rs.map rowT),false),some (.lst h,true),some (.lst e,true),some (.lst l,true),some (.lst o,true),some (.lst s,true),b6,b7]∧h=tab (hdF (kdR rs)) rs.length k∧e=tabE (endsAt (kdR rs) rs.length) rs.length k∧l=elF (kdR rs) rs.length k∧o=tab (hmF (kdR rs)) rs.length k∧s=stT rs k
noncomputable def cutS (rs:List Rw) (M:Nat→Rw→List T→List T→List T→List T→List T→Prop):FS:=fun d ρ=>∃ k r h e l o s,rs[k]?=some r∧ρ=envS rs h e l o s k r∧h=tab (hdF (kdR rs)) rs.length (k+1)∧M k r h e l o s∧∀ ρ',InvS rs (k+1) ρ'→d.nx ρ'
noncomputable def M1 (rs:List Rw) (k:Nat) (r:Rw) (h e l o s:List T):Prop:=e=tabE (endsAt (kdR rs) rs.length) rs.length k∧l=elF (kdR rs) rs.length k∧s=stT rs k∧o.length=rs.length∧((kindR r).df=true→o.set k (.int (k:Int))=tab (hmF (kdR rs)) rs.length (k+1))∧((kindR r).df=false→o=tab (hmF (kdR rs)) rs.length (k+1))
noncomputable def M2 (rs:List Rw) (k:Nat) (r:Rw) (h e l o s:List T):Prop:=e=tabE (endsAt (kdR rs) rs.length) rs.length k∧l=elF (kdR rs) rs.length k∧s=stT rs k∧o=tab (hmF (kdR rs)) rs.length (k+1)
noncomputable def M3 (rs:List Rw) (k:Nat) (r:Rw) (h e l o s:List T):Prop:=e=tabE (endsAt (kdR rs) rs.length) rs.length k∧l=elF (kdR rs) rs.length (k+1)∧s=stT rs k∧o=tab (hmF (kdR rs)) rs.length (k+1)
noncomputable def M4 (rs:List Rw) (k:Nat) (r:Rw) (h e l o s:List T):Prop:=e=tabE (endsAt (kdR rs) rs.length) rs.length (k+1)∧l=elF (kdR rs) rs.length (k+1)∧o=tab (hmF (kdR rs)) rs.length (k+1)∧s=(if (kindR r).cl=true then (stT rs k).dropLast else stT rs k)
theorem ix_nat {n k:Nat} (h:k < n):ixN n (k:Int)=some k:=by
 unfold ixN
 rw [if_pos (by omega),if_pos (by omega),Int.toNat_natCast]
theorem st_last {rs:List Rw} {k:Nat} (h:st (kdR rs) k≠[]):∃ j,(st (kdR rs) k).getLast?=some j∧atI (stT rs k) (-1)=some (.int (j:Int)):=by
 obtain ⟨j,hj⟩:∃ j,(st (kdR rs) k).getLast?=some j:=⟨_,List.getLast?_eq_some_getLast h⟩
 exact ⟨j,hj,atI_last (by unfold stT; rw [List.getLast?_map,hj]; rfl)⟩
section
variable {P:Program} {w:World} {K:PySem.W.Frag} {mg:Str→Option Value} {base:Heap}
noncomputable abbrev n_shape:List Str:=["program","heads","ends","elses","homes","opened","place","row"]
theorem sc_shape:FnScope n_shape ["program"] (defScope s_shape):=⟨rfl,rfl,rfl,by decide +kernel,rfl,by decide +kernel,by decide +kernel⟩
theorem ok_shape {f:Addr} {fd:FuncData} (D:Df K mg "shape" s_shape ["program"] f fd) (M:Mg5 K mg):Cal P w K mg base "shape" ["program"] 1 (spD K 1 gShape):=by
 refine D.cal (fnD D.F sc_shape rfl (by decide) fun cdv A outer s H E Ox hr ts q hG=>?_)
 have nd:=sc_shape.nd
 have hu:=Room.u101 hr
 have np:∀ {i:Nat},NotPar ⟨H,[],Ox⟩ i:=np0
 obtain ⟨ac,mc,hac⟩:=M.CL
 obtain ⟨ao,mo,hao⟩:=M.OP
 have g_CLOSERS:∀ {pos},VP (cxOf CX0 P w K mg base n_shape "shape" (defScope s_shape) f cdv A outer s H E).nox ⟨H,[],Ox⟩ (.Name "CLOSERS" pos) (fC (.tup [.str "give",.str "end"])):=vp_glob (by rfl) mc (v:=.ref ac) rfl fun H A=>at_tup (hac H) (AtL.cons at_str (AtL.cons at_str AtL.nil))
 have g_OPENERS:∀ {pos},VP (cxOf CX0 P w K mg base n_shape "shape" (defScope s_shape) f cdv A outer s H E).nox ⟨H,[],Ox⟩ (.Name "OPENERS" pos) (fC (.tup [.str "def",.str "if",.str "while"])):=vp_glob (by rfl) mo (v:=.ref ao) rfl fun H A=>at_tup (hao H) (AtL.cons at_str (AtL.cons at_str (AtL.cons at_str AtL.nil)))
 obtain ⟨rs,rfl,W,hn,hq⟩:=hG
 refine ⟨_,(vsd_cons (vs_own (i:=1) nd rfl (Or.inl rfl) (VP.vx (vp_rep (vp_lst (va_cons (VP.ve vp_non) va_nil)) (VP.vr (vp_callB call_lenU callT_len (by rfl) M.len PySem.boot_len (var_cons (vr_var 0) var_nil))))) np)
   (vsd_cons (vs_own (i:=2) nd rfl (Or.inl rfl) (VP.vx (vp_rep (vp_lst (va_cons (VP.ve vp_non) va_nil)) (VP.vr (vp_callB call_lenU callT_len (by rfl) M.len PySem.boot_len (var_cons (vr_var 0) var_nil))))) np)
   (vsd_cons (vs_own (i:=3) nd rfl (Or.inl rfl) (VP.vx (vp_rep (vp_lst (va_cons (VP.ve vp_non) va_nil)) (VP.vr (vp_callB call_lenU callT_len (by rfl) M.len PySem.boot_len (var_cons (vr_var 0) var_nil))))) np)
   (vsd_cons (vs_own (i:=4) nd rfl (Or.inl rfl) (VP.vx (vp_rep (vp_lst (va_cons (VP.ve vp_non) va_nil)) (VP.vr (vp_callB call_lenU callT_len (by rfl) M.len PySem.boot_len (var_cons (vr_var 0) var_nil))))) np)
   (vsd_cons (vs_own (i:=5) nd rfl (Or.inl rfl) (VP.vx (vp_lst va_nil)) np)
   (vsd_cons (vs_for PassesOwn.never rfl (vi_enum (by rfl) M.enumerate (ve_var 0)) (vg_tup (n:=2) rfl (vgs_cons (vg_name (i:=6) nd rfl (Or.inl rfl) np) (vgs_cons (vg_name (i:=7) nd rfl (Or.inl rfl) np) vgs_nil)))
     (vss_cons (vs_if (vc_gt (VP.vr (vp_callB call_lenU callT_len (by rfl) M.len PySem.boot_len (var_cons (vr_var 5) var_nil))) (VP.vr vp_int))
       (vss_cons (vs_put 1 (VP.ve (vp_ix (vr_var 5) (VP.vr (vp_neg (VP.vr vp_int))))) (vr_var 6))
       (vss_one (vs_put 4 (VP.ve (vp_ix (vr_var 5) (VP.vr vp_int))) (vr_var 6))))
       vss_nil)
     (VSs.weak (u:=(cutS rs (M1 rs))) (vss_cons (vs_if (vc_eq hu (VP.vr (vp_ix (vr_var 7) (VP.vr vp_int))) (VP.vr vp_str))
       (vss_one (vs_put 4 (ve_var 6) (vr_var 6)))
       vss_nil)
     (VSs.weak (u:=(cutS rs (M2 rs))) (vss_cons (vs_if (vc_eq hu (VP.vr (vp_ix (vr_var 7) (VP.vr vp_int))) (VP.vr vp_str))
       (vss_one (vs_put 3 (ve_var 6) (VP.vr (vp_ix (vr_var 5) (VP.vr (vp_neg (VP.vr vp_int)))))))
       vss_nil)
     (VSs.weak (u:=(cutS rs (M3 rs))) (vss_cons (vs_if (vc_in (VP.vr (vp_ix (vr_var 7) (VP.vr vp_int))) (VP.vr g_CLOSERS))
       (vss_cons (vs_put 2 (ve_var 6) (VP.vr (vp_ix (vr_var 5) (VP.vr (vp_neg (VP.vr vp_int))))))
       (vss_one (vs_expr (vx_bm0 5 PySem.F.slot_list_pop PySem.F.type_list_pop mt_pop mtT_pop))))
       vss_nil)
     (VSs.weak (u:=(cutS rs (M4 rs))) (vss_one (vs_if (vc_in (VP.vr (vp_ix (vr_var 7) (VP.vr vp_int))) (VP.vr g_OPENERS))
       (vss_one (vs_expr (vx_bm 5 PySem.F.slot_list_append PySem.F.type_list_append mt_append mtT_append (va_cons (ve_var 6) va_nil))))
       vss_nil)) ?w4)) ?w3)) ?w2)) ?w1)))
   (vsd_ret (is:=[1,2,3,4]) rfl ⟨_,_,1,_,rfl,rfl,rfl,Or.inl rfl,by decide,by decide,rfl,⟨_,_,2,_,rfl,rfl,rfl,Or.inl rfl,by decide,by decide,rfl,⟨_,_,3,_,rfl,rfl,rfl,Or.inl rfl,by decide,by decide,rfl,⟨_,_,4,_,rfl,rfl,rfl,Or.inl rfl,by decide,by decide,rfl,rfl⟩⟩⟩⟩ (by decide) (by decide)))))))),fun _=>?main⟩
 case w4 =>
  rintro d ρ ⟨k,r,h,e,l,o,s,hr',rfl,rfl,⟨rfl,rfl,rfl,rfl⟩,fin⟩
  have hkn:k < rs.length:=(List.getElem?_eq_some_iff.mp hr').1
  have hkd:=kdR_at hr'
  obtain ⟨rl,er⟩:=rowT_word r
  unfold envS
  rw [er]
  refine ⟨_,atI_nat (j:=0) rfl,rfl,rfl,?_⟩
  refine ite2 (fun h1=>?_) (fun h1=>?_)
  · have ho:(kindR r).op=true:=by rw [← w_op]; exact h1
    have hc:(kindR r).cl=false:=by have:=W.ex k hkn (by rw [hkd]; exact ho); rw [hkd] at this; exact this
    rw [hc,if_neg Bool.false_ne_true]
    refine ⟨?_,fin _ ⟨_,_,_,_,_,_,_,rfl,rfl,rfl,rfl,rfl,?_⟩⟩
    · have:=st_len (kdR rs) k
      unfold stT
      rw [List.length_map,sizeLine_eq]
      omega
    · unfold stT
      rw [st_op (by rw [hkd]; exact ho) (by rw [hkd]; exact hc),List.map_append]
      rfl
  · have ho:(kindR r).op=false:=by
     cases q:(kindR r).op with
     | false=>rfl
     | true=>exact (h1 ((w_op r).trans q)).elim
    refine fin _ ⟨_,_,_,_,_,_,_,rfl,rfl,rfl,rfl,rfl,?_⟩
    unfold stT
    by_cases hc:(kindR r).cl=true
    · rw [if_pos hc,st_cl (by rw [hkd]; exact hc) (by rw [hkd]; exact ho),List.map_dropLast]
    · rw [if_neg hc,st_ot (by rw [hkd]; cases q:(kindR r).cl <;> simp_all) (by rw [hkd]; exact ho)]
 case w3 =>
  rintro d ρ ⟨k,r,h,e,l,o,s,hr',rfl,rfl,⟨rfl,rfl,rfl,rfl⟩,fin⟩
  have hkn:k < rs.length:=(List.getElem?_eq_some_iff.mp hr').1
  have hkd:=kdR_at hr'
  obtain ⟨rl,er⟩:=rowT_word r
  unfold envS
  rw [er]
  refine ⟨_,atI_nat (j:=0) rfl,rfl,rfl,?_⟩
  refine ite2 (fun h1=>?_) (fun h1=>?_)
  · have hc:(kindR r).cl=true:=by rw [← w_cl]; exact h1
    have hc':(kdR rs k).cl=true:=by rw [hkd]; exact hc
    obtain ⟨j,hj,ej⟩:=st_last (W.cl k hkn hc')
    obtain ⟨te,hjk⟩:=top_end W hkn hc' hj
    refine ⟨_,ej,j,by rw [tabE_len]; exact ix_nat (by omega),rfl,.int (j:Int),?_,k,r,_,_,_,_,_,hr',by rw [← er]; rfl,rfl,⟨?_,rfl,rfl,by rw [if_pos hc]⟩,fin⟩
    · unfold stT
      rw [List.length_map,List.getElem?_map,← List.getLast?_eq_getElem?,hj]
      rfl
    · refine tabE_set te fun i hi he=>?_
      have:=(end_top W hkn he hi).2
      rw [hj] at this
      exact (Option.some.inj this).symm
  · have hc:(kindR r).cl=false:=by
     cases q:(kindR r).cl with
     | false=>rfl
     | true=>exact (h1 ((w_cl r).trans q)).elim
    refine ⟨k,r,_,_,_,_,_,hr',by rw [← er]; rfl,rfl,⟨tabE_skip fun i hi he=>?_,rfl,rfl,by rw [hc,if_neg Bool.false_ne_true]⟩,fin⟩
    have:=(end_top W hkn he hi).1
    rw [hkd,hc] at this
    cases this
 case w2 =>
  rintro d ρ ⟨k,r,h,e,l,o,s,hr',rfl,rfl,⟨rfl,rfl,rfl,rfl⟩,fin⟩
  have hkn:k < rs.length:=(List.getElem?_eq_some_iff.mp hr').1
  have hkd:=kdR_at hr'
  obtain ⟨rl,er⟩:=rowT_word r
  unfold envS
  rw [er]
  refine ⟨_,atI_nat (j:=0) rfl,?_⟩
  refine ite2 (fun h1=>?_) (fun h1=>?_)
  · have hc:(kindR r).el=true:=by rw [← w_el]; exact h1
    have hc':(kdR rs k).el=true:=by rw [hkd]; exact hc
    obtain ⟨j,hj,ej⟩:=st_last (W.el k hkn hc')
    have hjl:j < k:=(st_sorted k).2 j (List.mem_of_getLast? hj)
    refine ⟨_,ej,j,by rw [elF_len]; exact ix_nat (by omega),k,r,_,_,_,_,_,hr',by rw [← er]; rfl,rfl,⟨rfl,?_,rfl,rfl⟩,fin⟩
    simp only [elF,hdF,hc',hj]
  · have hc:(kindR r).el=false:=by
     cases q:(kindR r).el with
     | false=>rfl
     | true=>exact (h1 ((w_el r).trans q)).elim
    refine ⟨k,r,_,_,_,_,_,hr',by rw [← er]; rfl,rfl,⟨rfl,?_,rfl,rfl⟩,fin⟩
    simp only [elF,hkd,hc]
 case w1 =>
  rintro d ρ ⟨k,r,h,e,l,o,s,hr',rfl,rfl,⟨rfl,rfl,rfl,ol,o1,o2⟩,fin⟩
  have hkn:k < rs.length:=(List.getElem?_eq_some_iff.mp hr').1
  obtain ⟨rl,er⟩:=rowT_word r
  unfold envS
  rw [er]
  refine ⟨_,atI_nat (j:=0) rfl,?_⟩
  refine ite2 (fun h1=>?_) (fun h1=>?_)
  · exact ⟨k,by rw [ol]; exact ix_nat hkn,k,r,_,_,_,_,_,hr',by rw [← er]; rfl,rfl,⟨rfl,rfl,rfl,o1 (by rw [← w_df]; exact h1)⟩,fin⟩
  · have hc:(kindR r).df=false:=by
     cases q:(kindR r).df with
     | false=>rfl
     | true=>exact (h1 ((w_df r).trans q)).elim
    exact ⟨k,r,_,_,_,_,_,hr',by rw [← er]; rfl,rfl,⟨rfl,rfl,rfl,o2 hc⟩,fin⟩
 case main =>
  have hlen:((rs.map rowT).length:Int)=(rs.length:Int):=by rw [List.length_map]
  have hrep:(List.replicate ((rs.map rowT).length:Int).toNat [T.non]).flatten=List.replicate rs.length T.non:=by
   rw [hlen,Int.toNat_natCast]
   exact rep_one _ _
  have hb1 : -(2 ^ 63)≤((rs.map rowT).length:Int):=by omega
  have hb2:((rs.map rowT).length:Int) < 2 ^ 63:=by omega
  have hb3:[T.non].length * ((rs.map rowT).length:Int).toNat≤sizeLine:=by rw [hlen,Int.toNat_natCast,sizeLine_eq]; simp; omega
  refine ⟨le8 (by simp),hb1,hb2,hb3,le8 (by simp),hb1,hb2,hb3,le8 (by simp),hb1,hb2,hb3,le8 (by simp),hb1,hb2,hb3,le8 (by simp),?_⟩
  show LoopW (enumT (rs.map rowT)) _ _ _ [some (.lst (rs.map rowT),false),some (.lst (List.replicate ((rs.map rowT).length:Int).toNat [T.non]).flatten,true),some (.lst (List.replicate ((rs.map rowT).length:Int).toNat [T.non]).flatten,true),some (.lst (List.replicate ((rs.map rowT).length:Int).toNat [T.non]).flatten,true),some (.lst (List.replicate ((rs.map rowT).length:Int).toNat [T.non]).flatten,true),some (.lst [],true),none,none]
  rw [enum_map,hrep]
  refine loop_map (InvS rs)
   ⟨_,_,_,_,_,_,_,rfl,(tab_zero _ _).symm,(tabE_zero _ _).symm,rfl,(tab_zero _ _).symm,rfl⟩ ?_ ?_
  · rintro k ⟨r,k'⟩ ρ hk ⟨b6,b7,_,_,_,_,_,rfl,rfl,rfl,rfl,rfl,rfl⟩
    rw [List.getElem?_zipIdx] at hk
    cases hr':rs[k]? with
    | none=>rw [hr'] at hk; cases hk
    | some r' =>
    rw [hr'] at hk
    simp at hk
    obtain ⟨rfl,rfl⟩:=hk
    have hkn:k < rs.length:=(List.getElem?_eq_some_iff.mp hr').1
    obtain ⟨rl,er⟩:=rowT_word r'
    refine ⟨rfl,rfl,?_⟩
    show gSeq _ _ _ [some (.lst (rs.map rowT),false),some (.lst (tab (hdF (kdR rs)) rs.length k),true),some (.lst (tabE (endsAt (kdR rs) rs.length) rs.length k),true),some (.lst (elF (kdR rs) rs.length k),true),some (.lst (tab (hmF (kdR rs)) rs.length k),true),some (.lst (stT rs k),true),some (.int (k:Int),false),some (rowT r',false)]
    rw [er]
    have hkd:=kdR_at hr'
    refine iteD (fun h1=>?_) (fun h1=>?_)
    · have hne:st (kdR rs) k≠[]:=fun z=>by
       have h1':((stT rs k).length:Int) > 0:=h1
       unfold stT at h1'
       rw [z] at h1'
       simp at h1'
      obtain ⟨j,hj,ej⟩:=st_last hne
      obtain ⟨j0,hj0⟩:∃ j0,(st (kdR rs) k).head?=some j0:=⟨_,List.head?_eq_some_head hne⟩
      have ej0:atI (stT rs k) 0=some (.int (j0:Int)):=atI_nat (j:=0) (by unfold stT; rw [List.getElem?_map,← List.head?_eq_getElem?,hj0]; rfl)
      refine ⟨_,ej,k,by rw [tab_len]; exact ix_nat hkn,_,ej0,k,by rw [tab_len]; exact ix_nat hkn,k,r',_,_,_,_,_,hr',by rw [← er]; rfl,?_,⟨rfl,rfl,rfl,by rw [List.length_set,tab_len],fun hd=>?_,fun hd=>?_⟩,fun ρ' h=>h⟩
      · have e1:T.int (j:Int)=oT (hdF (kdR rs) k):=by unfold hdF; rw [hj]; rfl
        rw [e1]; exact tab_set
      · rw [List.set_set]
        have e1:T.int (k:Int)=oT (hmF (kdR rs) k):=by unfold hmF; rw [hkd,if_pos hd]; rfl
        rw [e1]; exact tab_set
      · have e1:T.int (j0:Int)=oT (hmF (kdR rs) k):=by unfold hmF; rw [hkd,hd,if_neg Bool.false_ne_true,hj0]; rfl
        rw [e1]; exact tab_set
    · have hne:st (kdR rs) k=[]:=by
       cases q:st (kdR rs) k with
       | nil=>rfl
       | cons a b =>
         exfalso
         refine h1 ?_
         show ((stT rs k).length:Int) > 0
         unfold stT
         rw [q]
         simp
      refine ⟨k,r',_,_,_,_,_,hr',by rw [← er]; rfl,tab_skip (by unfold hdF; rw [hne]; rfl),⟨rfl,rfl,rfl,by rw [tab_len],fun hd=>?_,fun hd=>?_⟩,fun ρ' h=>h⟩
      · have e1:T.int (k:Int)=oT (hmF (kdR rs) k):=by unfold hmF; rw [hkd,if_pos hd]; rfl
        rw [e1]; exact tab_set
      · exact tab_skip (by unfold hmF; rw [hkd,hd,if_neg Bool.false_ne_true,hne]; rfl)
  · rintro ρ ⟨b6,b7,_,_,_,_,_,rfl,rfl,rfl,rfl,rfl,rfl⟩
    rw [List.length_zipIdx,tab_full,tab_full,tabE_full]
    · exact hq
    · intro j m hj he
      unfold endsAt at he
      split at he
      · rename_i ho
        obtain ⟨e,h1,h2,h3,_⟩:=end_is W hj ho
        rw [h1] at he
        cases he
        exact h3
      · cases he
end
end K5V
namespace VT
open PySem PySem.Spec PyProof.Rows L2
noncomputable def msk (X:Cx) (i:Nat) (y:Str):Cx:={ X with N:=X.N.set i y }
theorem ok_msk {X:Cx} {i:Nat} {y:Str} (o:X.Ok):(msk X i y).Ok :=
 ⟨o.mod,o.kind,o.glob,o.blt,o.above,o.inj,o.has,o.cab,o.hd,o.frames,o.stk,o.exf,o.bs,o.bsz,o.noex,o.exfs,o.funs,o.frf⟩
theorem ok_unmsk {X:Cx} {i:Nat} {y:Str} (o:(msk X i y).Ok):X.Ok :=
 ⟨o.mod,o.kind,o.glob,o.blt,o.above,o.inj,o.has,o.cab,o.hd,o.frames,o.stk,o.exf,o.bs,o.bsz,o.noex,o.exfs,o.funs,o.frf⟩
theorem inv_msk {X:Cx} {pins:List (Addr×Obj)} {σ:St} {H:Hp} {s:Shared} (i:Nat) (y:Str) (I:Inv X pins σ H s):Inv (msk X i y) pins (σ.set i none) H s:=by
 obtain ⟨m,hn,hl⟩:=I.loc
 refine ⟨ok_msk I.ok,I.os,I.bare,I.base,⟨m,hn,fun j x v h1 h2 h3=>?_⟩,I.cell,I.free,I.freeC,I.pin,I.hok,?_⟩
 · rcases get_set h2 with ⟨_,e,_⟩ | ⟨ne,h2⟩
   · cases e
   · have h1':(X.N.set i y)[j]?=some x:=h1
     rw [List.getElem?_set_ne (Ne.symm ne)] at h1'
     exact hl j x v h1' h2 h3
 · show (σ.set i none).length=(X.N.set i y).length
   rw [List.length_set,List.length_set]; exact I.len
theorem inv_unmsk {X:Cx} {pins:List (Addr×Obj)} {σ:St} {H:Hp} {s:Shared} {i:Nat} {y:Str} (I:Inv (msk X i y) pins σ H s):Inv X pins (σ.set i none) H s:=by
 obtain ⟨m,hn,hl⟩:=I.loc
 refine ⟨ok_unmsk I.ok,I.os,I.bare,I.base,⟨m,hn,fun j x v h1 h2 h3=>?_⟩,I.cell,I.free,I.freeC,I.pin,I.hok,?_⟩
 · rcases get_set h2 with ⟨_,e,_⟩ | ⟨ne,h2⟩
   · cases e
   · refine hl j x v ?_ h2 h3
     show (X.N.set i y)[j]?=some x
     rw [List.getElem?_set_ne (Ne.symm ne)]; exact h1
 · have:=I.len
   have e:(msk X i y).N.length=X.N.length:=by show (X.N.set i y).length=_; rw [List.length_set]
   rw [List.length_set]; omega
noncomputable def dMask (i:Nat) (d:VEn):VEn:={ nx:=fun ρ=>d.nx (ρ.set i none),rt:=fun ρ r=>d.rt (ρ.set i none) r,bk:=fun ρ=>d.bk (ρ.set i none),ct:=fun ρ=>d.ct (ρ.set i none) }
noncomputable def gMask (i:Nat) (g:FS):FS:=fun d ρ=>g (dMask i d) (ρ.set i none)
noncomputable def DMask (i:Nat) (D:Ends):Ends:={ nx:=fun σ H=>D.nx (σ.set i none) H,rt:=D.rt,bk:=fun σ H=>D.bk (σ.set i none) H,ct:=fun σ H=>D.ct (σ.set i none) H }
theorem RetX.scrap {K:PySem.W.Frag} {Z:Zc} {tm:List (T×V)} {O:List (Option Addr)} {ρ:En} {σ:St} {H:Hp} {i:Nat} {r:Rt} {v:V} (s:Option V) (hp:NotPar Z i) (h:RetX K Z tm O ρ σ H r v):RetX K Z tm (O.set i none) (ρ.set i none) (σ.set i s) H r v:=by
 cases r with
 | vw t=>exact ⟨h.1.scrap s hp,h.2.fewer (av_none_sub i)⟩
 | fr t =>
   obtain ⟨a,e,I,q,h0⟩:=h
   exact ⟨a,e,I.scrap (Z:=Z.ex a) s hp,q.fewer (av_none_sub i),h0⟩
theorem fin_mask {K:PySem.W.Frag} {Z:Zc} {tm:List (T×V)} {d:VEn} {D:Ends} {i:Nat} (hp:NotPar Z i) (F:Fin K Z tm d D):Fin K Z tm (dMask i d) (DMask i D) :=
 ⟨fun O ρ σ H I h=>F.nx _ _ _ H (I.scrap none hp) h,fun O ρ σ H r v z h=>F.rt _ _ _ H r v (z.scrap none hp) h,fun O ρ σ H I h=>F.bk _ _ _ H (I.scrap none hp) h,fun O ρ σ H I h=>F.ct _ _ _ H (I.scrap none hp) h⟩
section
variable {X:Cx} {Z:Zc} {st:Stmt} {sts:List Stmt} {g:FS}
theorem sp_mask {pins:List (Addr×Obj)} {D:Ends} {i:Nat} {y:Str}:∀ {f:Flow} {s':Shared},SP (msk X i y) pins (DMask i D) f s'→SP X pins D f s'
 | .next,s',⟨σ',H',I,q⟩=>⟨σ'.set i none,H',inv_unmsk I,q⟩
 | .brk,s',⟨σ',H',I,q⟩=>⟨σ'.set i none,H',inv_unmsk I,q⟩
 | .cont,s',⟨σ',H',I,q⟩=>⟨σ'.set i none,H',inv_unmsk I,q⟩
 | .ret u,s',⟨v,σ',H',I,r,q⟩=>⟨v,σ'.set i none,H',inv_unmsk I,r,q⟩
theorem vs_mask (i:Nat) (y:Str) (hp:NotPar Z i) (h:VS (msk X i y) Z st g):VS X Z st (gMask i g):=.mk fun tm pins s σ H D I ⟨ρ,O,d,J,q,F⟩ =>
 thn (h tm pins s (σ.set i none) H (DMask i D) (inv_msk i y I) ⟨ρ.set i none,O.set i none,dMask i d,J.scrap none hp,q,fin_mask hp F⟩) fun f s' z=>sp_mask z
end
end VT
namespace Lay
open PySem L2 VT Gen K5
noncomputable abbrev s_Layout:Stmt:=inClass (top 15) 0
structure MgLy (mg:Str→Option Value):Prop where
 len:mg "len" = none
 min:mg "min" = none
structure LyC (K:PySem.W.Frag) (C:Addr):Prop where
 cl:Cls K C
 n_program:NoAttr K C "program"
 n_heads:NoAttr K C "heads"
 n_ends:NoAttr K C "ends"
 n_elses:NoAttr K C "elses"
 n_homes:NoAttr K C "homes"
 n_defs:NoAttr K C "defs"
 n_main:NoAttr K C "main"
noncomputable def gLayout (C:Addr) (ts:List T) (q:T→Prop):Prop:=∃ rs:List Rw,ts=[.lst (rs.map rowT)]∧WFR rs∧rs.length≤100∧q (layT C rs)
section
variable {P:Program} {w:World} {K:PySem.W.Frag} {mg:Str→Option Value} {base:Heap} {cLayout:Addr}
noncomputable abbrev n_Layout:List Str:=["self","program","parts"]
theorem sc_Layout:FnScope n_Layout ["self","program"] (defScope s_Layout):=⟨rfl,rfl,rfl,by decide +kernel,rfl,by decide +kernel,by decide +kernel⟩
theorem ok_Layout {f:Addr} {fd:FuncData} (D:Dc K mg "Layout" "Layout.__init__" s_Layout ["self","program"] cLayout f fd) (M:MgLy mg) (M1:LyC K cLayout) (C_shape:Cal P w K mg base "shape" ["program"] 1 (spD K 1 K5V.gShape)) (C_first_defs:Cal P w K mg base "first_defs" ["program"] 1 (spP K 1 gFirst)):CalC P w K mg base "Layout" cLayout ["self","program"] 2 1 (gLayout cLayout):=by
 obtain ⟨f_shape,fd_shape,m_shape,k_shape,b_shape,F_shape⟩:=C_shape
 obtain ⟨f_first_defs,fd_first_defs,m_first_defs,k_first_defs,b_first_defs,F_first_defs⟩:=C_first_defs
 refine D.cal (fnI D.F sc_Layout rfl fun cdv A outer s H E as Ox hr us q hl hG=>?_)
 have nd:=sc_Layout.nd
 have hu:=Room.u101 hr
 have L_Layout:=M1
 refine ⟨_,(vss_cons (vs_set (i:=2) nd rfl (Or.inl rfl) (VP.vx (VD.vp (vd_call F_shape (hr.mono (by decide)) (by rfl) m_shape k_shape b_shape (va_cons (ve_var 1) va_nil)))) (np_pz (by decide)))
   (vss_cons (vs_fld 0 L_Layout.cl L_Layout.n_program (ve_var 1))
   (vss_cons (vs_fld 0 L_Layout.cl L_Layout.n_heads (VP.ve (vp_ix (vr_var 2) (VP.vr vp_int))))
   (vss_cons (vs_fld 0 L_Layout.cl L_Layout.n_ends (VP.ve (vp_ix (vr_var 2) (VP.vr vp_int))))
   (vss_cons (vs_fld 0 L_Layout.cl L_Layout.n_elses (VP.ve (vp_ix (vr_var 2) (VP.vr vp_int))))
   (vss_cons (vs_fld 0 L_Layout.cl L_Layout.n_homes (VP.ve (vp_ix (vr_var 2) (VP.vr vp_int))))
   (vss_cons (vs_fld 0 L_Layout.cl L_Layout.n_defs (VP.ve (vp_call F_first_defs (hr.mono (by decide)) (by rfl) m_first_defs k_first_defs b_first_defs (va_cons (ve_var 1) va_nil))))
   (vss_one (vs_fld 0 L_Layout.cl L_Layout.n_main (VP.ve (vp_if (vc_gt (VP.vr (vp_callB call_lenD callT_lenD (by rfl) M.len PySem.boot_len (var_cons (VP.vr (vp_fld L_Layout.cl L_Layout.n_defs (vr_var 0))) var_nil))) (VP.vr vp_int)) (vp_minvals rfl (by rfl) M.min (VP.vr (vp_fld L_Layout.cl L_Layout.n_defs (vr_var 0)))) vp_non))))))))))),?_⟩
 obtain ⟨rs,rfl,W,hn,hq⟩:=hG
 refine ⟨rfl,rs,rfl,W,hn,?_⟩
 rw [shape_eq]
 refine ⟨rfl,by show 0 < 1000; decide,?_⟩
 refine ⟨rfl,_,atI_nat (j:=0) rfl,by show 1 < 1000; decide,?_⟩
 refine ⟨rfl,_,atI_nat (j:=1) rfl,by show 2 < 1000; decide,?_⟩
 refine ⟨rfl,_,atI_nat (j:=2) rfl,by show 3 < 1000; decide,?_⟩
 refine ⟨rfl,_,atI_nat (j:=3) rfl,by show 4 < 1000; decide,?_⟩
 refine ⟨rfl,rfl,rs,rfl,hn,by show 5 < 1000; decide,?_⟩
 refine ⟨rfl,?_⟩
 refine ⟨rfl,_,rfl,?_⟩
 refine iteD (fun h=>?_) (fun h=>?_)
 · refine ⟨rfl,_,rfl,(firstL rs rs.length).map (fun p=>(p.2:Int)),?_,?_,fun m h1 h2=>?_⟩
   · rw [List.map_map]; rfl
   · intro z
     rw [List.map_eq_nil_iff] at z
     rw [z] at h
     exact absurd h (by decide)
   · refine ⟨by show 6 < 1000; decide,?_⟩
     have e:=main_min h1 h2
     show q [_] _
     rw [e]
     exact hq
 · refine ⟨by show 6 < 1000; decide,?_⟩
   have z:firstL rs rs.length=[]:=by
    cases e:firstL rs rs.length with
    | nil=>rfl
    | cons a b =>
      exfalso
      apply h
      rw [e]
      simp
   have e:mainN rs=none:=by
    cases e:mainN rs with
    | none=>rfl
    | some i =>
      obtain ⟨⟨g,ps,hi⟩,hm⟩:=main_some e
      obtain ⟨l,hl⟩:=firstL_head hi hm rs.length (List.getElem?_eq_some_iff.mp hi).1
      rw [z] at hl
      cases hl
   have e2:T.non=oT (mainN rs):=by rw [e]; rfl
   unfold layT at hq
   rw [← e2] at hq
   exact hq
end
end Lay
namespace PySem
open Sem (wp)
section
variable {prog:Program} {w:World} {A:Around} {E:Value→Shared→Prop} {s:Shared}
variable {it d:Addr} {o:Obj} {es:Array DictEntry} {ep i:Nat}
theorem wpAny_pyIter_dictO {Q:Value→Shared→Prop} (hm:(d == sysModules)=false) (ho:s.heap.get? d=some o) (hc:o.cls = .type "dict") (hd:o.data = .dict es ep)
  (hQ:Q (.ref s.heap.objs.size) { s with heap:=s.heap.push { cls:=.type "dict_keyiterator",data:=.fields #[.ref d,.int 0 0,.int es.size 0,.int ep 0] } }):wpAny (model prog w) A (pyIter (.ref d)) Q E s:=by
 have hT:s.TypeIs (.ref d) "dict":=⟨o,ho,hc⟩
 refine wpAny_pyIter_slot hT F.slot_dict_iter (wpAny_call_entry F.slot_dict_iter hT F.entry_dict_iter ?_ (F.args_dict_iter_1 _))
 unfold Builtin.«dict.__iter__»
 refine wpAny_bind ?_
 unfold Builtin.Dict.dictSlotNone Builtin.Dict.notOrdered
 refine wpAny_bind ?_
 rw [if_pos (by decide +kernel)]
 refine wpAny_bind (wpAny_typeOf hT ?_)
 rw [if_neg (by decide +kernel)]
 refine wpAny_pure ?_
 refine wpAny_bind (wpAny_pure ?_)
 refine wpAny_pure ?_
 refine wpAny_bind (wpAny_pure ?_)
 unfold Builtin.Dict.showsAll
 rw [if_neg (by rw [hm]; decide)]
 refine wpAny_bind (wpAny_pure ?_)
 refine wpAny_bind (wpAny_dictEntries ho hd ?_)
 refine wpAny_bind (wpAny_dictEpoch ho hd ?_)
 refine wpAny_bind (wpAny_newObj_type (wpAny_pure ⟨_,rfl,"dict_keyiterator",_,⟨_,Heap.get?_push_size _ rfl,rfl⟩,F.slot_dict_keyiterator_next.lookup,?_⟩))
 exact hQ
theorem wpAny_pyNext_dictO {Q:Option Value→Shared→Prop} (hit:s.heap.IsKeyIter it d i es.size ep) (ho:s.heap.get? d=some o) (hd:o.data = .dict es ep) {e:DictEntry} (he:es[i]?=some e)
  (h:∀ h',h'.IsKeyIter it d (i+1) es.size ep→Heap.SameBut it s.heap h'→Q (some e.key) { s with heap:=h' }):wpAny (model prog w) A (pyNext (.ref it)) Q E s:=by
 obtain ⟨oi,hoi,hci,hdi⟩:=id hit
 unfold pyNext
 refine wpAny_bind (wpAny_attempt (wpAny_callSpecial?_slot (name:=Str.ofString "__next__") hit.typeIs F.slot_dict_keyiterator_next
  (wpAny_call_entry F.slot_dict_keyiterator_next hit.typeIs F.entry_dict_keyiterator_next ?_ (F.args_dict_keyiterator_next_1 _))))
 unfold Builtin.«dict_keyiterator.__next__»
 wp_delta
 refine wpAny_bind (wpAny_bind (wpAny_pure ?_))
 refine wpAny_pure ?_
 dsimp only
 have hT:=hit.typeIs
 refine wpAny_bind ?_
 wp_delta
 refine wpAny_bind ?_
 wp_delta
 refine wpAny_bind (wpAny_typeNameOfWhole_keyiter hT ?_)
 refine wpAny_pure ?_
 rw [if_neg (by decide +kernel)]
 refine wpAny_bind (wpAny_fieldsOf hoi hdi ?_)
 show wpAny _ _ (if (Value.ref d == Value.none)=true then _ else _) _ _ _
 rw [if_neg (by simp)]
 refine wpAny_bind (wpAny_pure ?_)
 refine wpAny_bind (wpAny_dictEntries ho hd ?_)
 dsimp only
 rw [if_neg (by simp)]
 refine wpAny_bind (wpAny_pure ?_)
 refine wpAny_bind (wpAny_dictEpoch ho hd ?_)
 rw [if_neg (by simp)]
 refine wpAny_pure ?_
 dsimp only
 rw [if_neg (by omega),show ((i:Int)).toNat=i from Int.toNat_natCast i,he]
 dsimp only
 refine wpAny_bind ?_
 wp_delta
 refine wpAny_bind (wpAny_typeNameOfWhole_keyiter hT ?_)
 refine wpAny_pure ?_
 rw [if_neg (by decide +kernel)]
 refine wpAny_bind (wpAny_isOneOf_keyiter hT ?_)
 rw [if_neg (by decide +kernel)]
 refine wpAny_bind (wpAny_setField hoi hdi (by simp) ?_)
 have g1:=Heap.get?_update_self (Obj.mapFields (·.setIfInBounds (0+1) (rawInt ((i:Int)+1)))) hoi (Obj.isFreed_of_fields (Obj.data_mapFields hdi _))
 have hit':(s.heap.update it (Obj.mapFields (·.setIfInBounds (0+1) (rawInt ((i:Int)+1))))).IsKeyIter it d (i+1) es.size ep :=
  ⟨_,g1,(Obj.cls_mapFields ..).trans hci,by rw [Obj.data_mapFields hdi]; simp [rawInt]⟩
 refine wpAny_bind (wpAny_holding ?_)
 wp_delta
 refine wpAny_bind (wpAny_isOneOf_keyiter (s:={ s with heap:=_ }) hit'.typeIs ?_)
 rw [if_pos (by decide +kernel)]
 refine wpAny_pure ?_
 exact wpAny_pure ⟨_,rfl,wpAny_pure (h _ hit' (Heap.SameBut.update ..))⟩
theorem wpAny_pyNext_dictOEnd {Q:Option Value→Shared→Prop} (hh:A.handled=none) (hit:s.heap.IsKeyIter it d i es.size ep) (ho:s.heap.get? d=some o) (hd:o.data = .dict es ep) (he:es[i]?=none)
  (h:∀ h',Heap.ExtBut it s.heap h'→Q none { s with heap:=h' }):wpAny (model prog w) A (pyNext (.ref it)) Q E s:=by
 obtain ⟨oi,hoi,hci,hdi⟩:=id hit
 unfold pyNext
 refine wpAny_bind (wpAny_attempt (wpAny_callSpecial?_slot (name:=Str.ofString "__next__") hit.typeIs F.slot_dict_keyiterator_next
  (wpAny_call_entry F.slot_dict_keyiterator_next hit.typeIs F.entry_dict_keyiterator_next ?_ (F.args_dict_keyiterator_next_1 _))))
 unfold Builtin.«dict_keyiterator.__next__»
 wp_delta
 refine wpAny_bind (wpAny_bind (wpAny_pure ?_))
 refine wpAny_pure ?_
 dsimp only
 have hT:=hit.typeIs
 refine wpAny_bind ?_
 wp_delta
 refine wpAny_bind ?_
 wp_delta
 refine wpAny_bind (wpAny_typeNameOfWhole_keyiter hT ?_)
 refine wpAny_pure ?_
 rw [if_neg (by decide +kernel)]
 refine wpAny_bind (wpAny_fieldsOf hoi hdi ?_)
 show wpAny _ _ (if (Value.ref d == Value.none)=true then _ else _) _ _ _
 rw [if_neg (by simp)]
 refine wpAny_bind (wpAny_pure ?_)
 refine wpAny_bind (wpAny_dictEntries ho hd ?_)
 dsimp only
 rw [if_neg (by simp)]
 refine wpAny_bind (wpAny_pure ?_)
 refine wpAny_bind (wpAny_dictEpoch ho hd ?_)
 rw [if_neg (by simp)]
 refine wpAny_pure ?_
 dsimp only
 rw [if_neg (by omega),show ((i:Int)).toNat=i from Int.toNat_natCast i,he]
 dsimp only
 refine wpAny_bind ?_
 wp_delta
 refine wpAny_bind (wpAny_typeNameOfWhole_keyiter hT ?_)
 refine wpAny_pure ?_
 rw [if_neg (by decide +kernel)]
 refine wpAny_bind (wpAny_setField hoi hdi (by simp) ?_)
 refine wpAny_bind ?_
 simp only [newExc,newTuple]
 refine wpAny_bind (wpAny_newObj_type ?_ (by size_fits))
 refine wpAny_bind (m:=firstArgMember _ _) (wpAny_of_eq (a:=Value.none) (by first | rfl | (simp only [firstArgMember]; rfl)) ?_)
 refine wpAny_newObj_type ?_ (by size_fits)
 simp only [raiseNew]
 refine wpAny_bind (wpAny_handled ?_)
 rw [show A.in1.handled=none from hh]
 refine wpAny_bind (wpAny_pure (wpAny_throw ?_))
 refine wpAny_bind (wpAny_isInstance (T:="StopIteration") (b:=true) ⟨_,Heap.get?_push_size _ rfl,rfl⟩ isSubtype_stop ?_)
 exact wpAny_pure (h _ (((Heap.SameBut.update ..).extBut.push _).push _))
theorem wpAny_pyIter_keyO {n:Nat} {Q:Value→Shared→Prop} (hit:s.heap.IsKeyIter it d i n ep) (hQ:Q (.ref it) s):wpAny (model prog w) A (pyIter (.ref it)) Q E s:=by
 refine wpAny_pyIter_slot hit.typeIs F.slot_dict_keyiterator_iter (wpAny_call_entry F.slot_dict_keyiterator_iter hit.typeIs F.entry_dict_keyiterator_iter ?_ (F.args_dict_keyiterator_iter_1 _))
 exact wpAny_pure ⟨_,rfl,"dict_keyiterator",_,hit.typeIs,F.slot_dict_keyiterator_next.lookup,hQ⟩
end
end PySem
namespace VT
open PySem PySem.Spec PyProof.Rows L2
noncomputable def kAd (o:Obj) (i:Nat):Addr:=match o.data with
 | .dict es _=>match es[i]? with
   | some e=>match e.key with
     | .ref b=>b
     | _=>0
   | none=>0
 | _=>0
noncomputable def FzD (H:Hp) (a:Addr) (o:Obj) (ks:List (List Key)):Prop:=∃ vs:List V,ks.length=vs.length∧H a=some (.frz o (.dT (ks.zip vs)))
theorem FzD.known {P:Program} {w:World} {H:Hp} {h:Heap} {a:Addr} {o:Obj} {ks:List (List Key)} (ok:HOk P w H h) (z:FzD H a o ks):h.get? a=some o∧(a == sysModules)=false∧o.cls = .type "dict"∧∃ es ep,o.data = .dict es ep∧es.size=ks.length ∧
  ∀ (i:Nat) (k:List Key),ks[i]?=some k→H (kAd o i)=some (.tup (k.map kV))∧∃ e,es[i]?=some e∧e.key = .ref (kAd o i):=by
 obtain ⟨vs,hl,ha⟩:=z
 obtain ⟨ho,_,hm,xs,hx,o',es,ep,h1,h2,h3,h4,h5⟩:=(show ObjOk P w H h a (.frz o (.dT (ks.zip vs))) from ok a _ ha)
 rw [ho] at h1
 cases h1
 have hz:es.size=ks.length:=by
  have e1:=Paired.length hx
  rw [List.length_zip,hl,Nat.min_self] at e1
  rw [← Array.length_toList,h4,List.length_map,hl]
  exact e1.symm
 refine ⟨ho,hm,h2.1,es,ep,h3,hz,fun i k hk=>?_⟩
 have hi:i < ks.length:=(List.getElem?_eq_some_iff.mp hk).1
 have hv:vs[i]?=some (vs[i]'(by omega)):=List.getElem?_eq_getElem _
 have hp:(ks.zip vs)[i]?=some (k,vs[i]'(by omega)):=by rw [List.getElem?_zip_eq_some]; exact ⟨hk,hv⟩
 obtain ⟨q,hq,e1,e2,e3⟩:=paired_getL hx hp
 have he:es[i]?=some (entryOfKey (tupleKind (mixKind P w)) q):=by
  rw [← Array.getElem?_toList,h4,List.getElem?_map,hq]; rfl
 have ek:kAd o i=q.2.1:=by unfold kAd; rw [h3]; dsimp only; rw [he]; rfl
 rw [ek]
 exact ⟨e2,_,he,rfl⟩
noncomputable def kT:Key→T
 | .inl i=>.int i
 | .inr x=>.str x
noncomputable def ktT (k:List Key):T:=.tup (k.map kT)
theorem at_kT {K:PySem.W.Frag} {H:Hp} {A:List Addr} (k:Key):At K H A (kT k) (kV k):=by cases k <;> simp only [kT,kV,At]
theorem at_kTs {K:PySem.W.Frag} {H:Hp} {A:List Addr}:∀ k:List Key,AtL K H A (k.map kT) (k.map kV)
 | []=>AtL.nil
 | k :: ks=>AtL.cons (at_kT k) (at_kTs ks)
theorem at_ktT {K:PySem.W.Frag} {H:Hp} {A:List Addr} {b:Addr} {k:List Key} (h:H b=some (.tup (k.map kV))):At K H A (ktT k) (.ref b):=at_tup (SqT.of h) (at_kTs k)
theorem df_fz {K:PySem.W.Frag} {H:Hp} {A:List Addr} {o:Obj} {ks:List (List Key)} {ts:List T} {a:Addr} (h:At K H A (.df o ks ts) (.ref a)):FzD H a o ks:=by
 simp only [At] at h
 obtain ⟨b,vs,e,hl,hd,_⟩:=h
 cases e
 exact ⟨vs,hl,hd.1⟩
section
variable {X:Cx} {Z:Zc} {tg l:Expr}
end
end VT
namespace VT
open PySem PySem.Spec PyProof.Rows L2
section
variable {X:Cx} {Z:Zc}
theorem pss_ice {rest:List Stmt} {t:TS} (h:PSs X rest t):PSs X rest (fun D σ H=>∃ a kvs,H a=some (.dT kvs)∧∀ o,t D σ (upd H a (.frz o (.dT kvs)))):=by
 intro pins s σ H D I hq
 obtain ⟨a,kvs,ha,k⟩:=hq
 obtain ⟨z,y,xs,r,o,es,ep,h1,h2,h3,h4,h5⟩:=(show ObjOk X.prog X.w H s.heap a (.dT kvs) from I.hok a _ ha)
 have new:ObjOk X.prog X.w (upd H a (.frz o (.dT kvs))) s.heap a (.frz o (.dT kvs)):=by
  refine ⟨h1,z,y,xs,Paired.mapP r fun p q ⟨e1,e2,e3⟩=>⟨e1,?_,e3⟩,o,es,ep,h1,h2,h3,h4,h5⟩
  rw [upd_ne]
  · exact e2
  · intro e; rw [e,ha] at e2; cases e2
 have I':Inv X pins σ (upd H a (.frz o (.dT kvs))) { s with heap:=s.heap,toks:=s.toks }:=I.write (x:=a) (e:=a) (by rw [ha]; trivial) (.inl rfl) (fun b u _ q=>q) ⟨o,h1⟩ new
 exact h pins s σ _ D I' (k o)
end
noncomputable def keysT:List T→Option (List Key)
 | []=>some []
 | t :: ts=>match keyT t,keysT ts with
   | some k,some ks=>some (k :: ks)
   | _,_=>none
theorem keysT_at {K:PySem.W.Frag} {H:Hp} {A:List Addr}:∀ {ts:List T} {vs:List V} {k:List Key},AtL K H A ts vs→keysT ts=some k→vs=k.map kV
 | [],vs,k,h,e=>by
   simp only [AtL] at h
   cases e
   exact h
 | t :: ts,vs,k,h,e=>by
   simp only [AtL] at h
   obtain ⟨v,r,rfl,h1,h2⟩:=h
   simp only [keysT] at e
   split at e
   · rename_i k' ks e1 e2
     cases e
     rw [keyT_at (.inl h1) e1,keysT_at h2 e2]; rfl
   · cases e
section
variable {κ α:Type} [DecidableEq κ]
noncomputable def gGet:List κ→List α→κ→Option α
 | k :: ks,t :: ts,x=>if k=x then some t else gGet ks ts x
 | _,_,_=>none
noncomputable def gHas (ks:List κ) (x:κ):Bool:=ks.any fun k=>decide (k=x)
noncomputable def gKs (ks:List κ) (x:κ):List κ:=if gHas ks x=true then ks else ks ++ [x]
noncomputable def gVs (ks:List κ) (ts:List α) (x:κ) (u:α):List α:=if gHas ks x=true then List.zipWith (fun k t=>if k=x then u else t) ks ts else ts ++ [u]
theorem gGet_nil (ts:List α) (x:κ):gGet [] ts x=none:=by cases ts <;> rfl
theorem gGet_val:∀ (ks:List κ) (vs:List V) (x:κ),valV (ks.zip vs) x=gGet ks vs x
 | [],vs,x=>by rw [gGet_nil]; rfl
 | k :: ks,[],x=>rfl
 | k :: ks,v :: vs,x=>by
   simp only [gGet,List.zip_cons_cons]
   by_cases e:k=x
   · rw [if_pos e,valV_pos (p:=(k,v)) e]
   · rw [if_neg e,valV_neg (p:=(k,v)) e]; exact gGet_val ks vs x
theorem gGet_at {K:PySem.W.Frag} {H:Hp} {A:List Addr}:∀ {ks:List κ} {ts:List T} {vs:List V} {x:κ},AtL K H A ts vs→(∀ t,gGet ks ts x=some t→∃ v,gGet ks vs x=some v∧At K H A t v)∧(gGet ks ts x=none→gGet ks vs x=none)
 | [],ts,vs,x,h=>by
   rw [gGet_nil,gGet_nil]
   refine ⟨fun t e=>?_,fun _=>rfl⟩
   cases e
 | k :: ks,[],vs,x,h=>by
   simp only [AtL] at h
   subst h
   exact ⟨fun t e=>(by cases e),fun _=>rfl⟩
 | k :: ks,t :: ts,vs,x,h=>by
   simp only [AtL] at h
   obtain ⟨v,r,rfl,h1,h2⟩:=h
   simp only [gGet]
   by_cases e:k=x
   · rw [if_pos e,if_pos e]
     exact ⟨fun t e=>by cases e; exact ⟨v,rfl,h1⟩,fun q=>by cases q⟩
   · rw [if_neg e,if_neg e]
     exact gGet_at h2
theorem gHas_zip (ks:List κ) (vs:List V) (x:κ) (hl:ks.length=vs.length):((ks.zip vs).any fun kv=>decide (kv.1=x))=gHas ks x:=by
 unfold gHas
 induction ks generalizing vs with
 | nil=>rfl
 | cons k ks ih =>
   cases vs with
   | nil=>simp at hl
   | cons v vs=>rw [List.zip_cons_cons,List.any_cons,List.any_cons,ih vs (by simpa using hl)]
theorem g_zip (ks:List κ) (vs:List V) (x:κ) (v:V):(ks.zip vs).map (fun kv=>if kv.1=x then (kv.1,v) else kv)=ks.zip (List.zipWith (fun k t=>if k=x then v else t) ks vs):=by
 induction ks generalizing vs with
 | nil=>rfl
 | cons k ks ih =>
   cases vs with
   | nil=>rfl
   | cons u vs =>
     simp only [List.zip_cons_cons,List.map_cons,List.zipWith_cons_cons]
     rw [ih vs]
     by_cases e:k=x
     · rw [if_pos e,if_pos e]
     · rw [if_neg e,if_neg e]
theorem g_put (ks:List κ) (vs:List V) (x:κ) (v:V) (hl:ks.length=vs.length):L2.putK (ks.zip vs) x v=(gKs ks x).zip (gVs ks vs x v)∧(gKs ks x).length=(gVs ks vs x v).length:=by
 unfold L2.putK gKs gVs
 rw [gHas_zip ks vs x hl]
 by_cases e:gHas ks x=true
 · rw [if_pos e,if_pos e,if_pos e]
   exact ⟨g_zip ks vs x v,by simp [hl]⟩
 · rw [if_neg e,if_neg e,if_neg e]
   refine ⟨?_,by simp [hl]⟩
   rw [List.zip_append hl]
   rfl
theorem gVs_at {K:PySem.W.Frag} {H:Hp} {A:List Addr} {ks:List κ} {ts:List T} {vs:List V} {x:κ} {t:T} {v:V} (h:AtL K H A ts vs) (ht:At K H A t v):AtL K H A (gVs ks ts x t) (gVs ks vs x v):=by
 unfold gVs
 by_cases e:gHas ks x=true
 · rw [if_pos e,if_pos e]
   clear e
   induction ks generalizing ts vs with
   | nil=>simp only [List.zipWith_nil_left]; exact AtL.nil
   | cons k ks ih =>
     cases ts with
     | nil =>
       simp only [AtL] at h
       subst h
       simp only [List.zipWith_nil_right]
       exact AtL.nil
     | cons t0 ts =>
       simp only [AtL] at h
       obtain ⟨v0,r,rfl,h1,h2⟩:=h
       simp only [List.zipWith_cons_cons]
       refine AtL.cons ?_ (ih h2)
       by_cases q:k=x
       · rw [if_pos q,if_pos q]; exact ht
       · rw [if_neg q,if_neg q]; exact h1
 · rw [if_neg e,if_neg e]
   exact h.append (AtL.cons ht AtL.nil)
theorem gGet_or {K:PySem.W.Frag} {H:Hp} {A:List Addr} {ks:List κ} {ts:List T} {vs:List V} {k:κ} {z:T} {w:V} (h:AtL K H A ts vs) (hz:At K H A z w):At K H A ((gGet ks ts k).getD z) ((gGet ks vs k).getD w):=by
 cases e:gGet ks ts k with
 | none=>rw [(gGet_at h).2 e]; exact hz
 | some t=>obtain ⟨v,e1,e2⟩:=(gGet_at h).1 t e; rw [e1]; exact e2
end
section
variable {X:Cx} {Z:Zc} {e a b:Expr} {es:List Expr} {fa fb fc:FE} {g:FA} {pos:Pos}
end
end VT
namespace PySem
open Sem (wp)
section
variable {prog:Program} {w:World} {A:Around} {E:Value→Shared→Prop} {s:Shared} {it d:Addr} {o:Obj} {es:Array DictEntry} {ep i:Nat} {ok ov:Value}
theorem wpAny_pyIter_itemsO {v:Addr} {Q:Value→Shared→Prop} (hv:s.heap.IsItemsView v d) (ho:s.heap.get? d=some o) (hd:o.data = .dict es ep)
  (hQ:Q (.ref s.heap.objs.size) { s with heap:=s.heap.push { cls:=.type "dict_itemiterator",data:=.fields #[.none,.bool false,.ref d,.int 0 0,.int es.size 0,.int ep 0,.none,.none] } }):wpAny (model prog w) A (pyIter (.ref v)) Q E s:=by
 obtain ⟨o2,hov,hcv,hdv⟩:=id hv
 refine wpAny_pyIter_slot hv.typeIs F.slot_dict_items_iter (wpAny_call_entry F.slot_dict_items_iter hv.typeIs F.entry_dict_items_iter ?_ (F.args_dict_items_iter_1 _))
 unfold Builtin.«dict_items.__iter__» Builtin.Dict_items.dictOf Builtin.Dict_items.newIterator
 refine wpAny_bind (wpAny_pure (wpAny_bind (wpAny_bind (wpAny_field hov hdv (x:=.ref d) rfl (wpAny_pure (wpAny_bind (wpAny_bind (wpAny_dictEntries ho hd (wpAny_bind (wpAny_dictEpoch ho hd ?_))))))))))
 have own:Builtin.Dict_items.ownsTuple "dict_itemiterator" = true:=by decide
 simp only [own,if_true]
 refine wpAny_newObj_type (wpAny_pure ⟨_,rfl,"dict_itemiterator",_,⟨_,Heap.get?_push_size _ rfl,rfl⟩,F.slot_dict_itemiterator_next.lookup,?_⟩) (by simp [sizeOk,Builtin.Dict_items.ownedTupleFields,sizeLine_eq])
 simpa [rawInt,Builtin.Dict_items.ownedTupleFields] using hQ
theorem wpAny_pyNext_itemsO {Q:Option Value→Shared→Prop} {e:DictEntry} (hit:IsItemIter s.heap it d i es.size ep ok ov) (ho:s.heap.get? d=some o) (hd:o.data = .dict es ep) (he:es[i]?=some e)
  (hQ:∀ h',IsItemIterOut h' it d (i+1) es.size ep e.key e.val s.heap.objs.size→h'.get? s.heap.objs.size=some { cls:=.type "tuple",data:=.seq #[e.key,e.val] }→h'.objs.size=s.heap.objs.size+1 →
    (∀ b u,b≠it→s.heap.get? b=some u→h'.get? b=some u)→Q (some (.ref s.heap.objs.size)) { s with heap:=h' }):wpAny (model prog w) A (pyNext (.ref it)) Q E s:=by
 obtain ⟨hp,g,dr,tk,os⟩:=s
 have hT:Shared.TypeIs ⟨hp,g,dr,tk,os⟩ (.ref it) "dict_itemiterator":=⟨_,hit,rfl⟩
 have hlt:i < es.size:=(Array.getElem?_eq_some_iff.mp he).1
 unfold pyNext
 refine wpAny_bind (wpAny_attempt (wpAny_callSpecial?_slot (name:=Str.ofString "__next__") hT F.slot_dict_itemiterator_next
  (wpAny_call_entry F.slot_dict_itemiterator_next hT F.entry_dict_itemiterator_next ?_ (F.args_dict_itemiterator_next_1 _))))
 refine wpAny_bind (wpAny_pure (wpAny_bind (wpAny_bind ?_)))
 first | refine wpAny_bind (wpAny_typeNameOfWhole_itemiter hT (wpAny_pure ?_)) | refine wpAny_bind (wpAny_typeNameOf_itemiter hT (wpAny_pure ?_))
 refine wpAny_bind (wpAny_fieldsOf hit rfl ?_)
 have own:Builtin.Dict_items.ownsTuple "dict_itemiterator" = true:=by decide
 simp only [own,if_true]
 show wpAny _ _ (if (Value.ref d == Value.none)=true then _ else _) _ _ _
 rw [if_neg (show ¬ ((Value.ref d == Value.none)=true) from Bool.false_ne_true)]
 refine wpAny_bind (wpAny_pure (wpAny_bind (wpAny_dictEntries ho hd ?_)))
 rw [if_neg (by simp)]
 refine wpAny_bind (wpAny_pure (wpAny_bind (wpAny_dictEpoch ho hd ?_)))
 rw [if_neg (by simp)]
 refine wpAny_pure ?_
 simp only [show ¬ ((i:Int) < 0) from by omega,if_false,Int.toNat_natCast,he]
 refine wpAny_bind ?_
 first | refine wpAny_bind (wpAny_typeNameOfWhole_itemiter hT (wpAny_pure ?_)) | refine wpAny_bind (wpAny_typeNameOf_itemiter hT (wpAny_pure ?_))
 refine wpAny_bind (wpAny_isOneOf_itemiter hT ?_)
 show wpAny _ _ (setField (.ref it) 3 (rawInt ((i:Int)+1)) >>= _) _ _ ⟨hp,g,dr,tk,os⟩
 refine wpAny_bind (wpAny_setField_rec hit (by simp) fun h₁ he₁ hs₁=>?_)
 replace hs₁:Heap.SameBut it hp h₁:=hs₁
 replace he₁:IsItemIter h₁ it d (i+1) es.size ep ok ov:=by
  have e1:((i+1:Nat):Int)=(i:Int)+1:=by omega
  unfold IsItemIter; rw [e1]; simpa [rawInt] using he₁
 have hT₁:Shared.TypeIs ⟨h₁,g,dr,tk,os⟩ (.ref it) "dict_itemiterator":=⟨_,he₁,rfl⟩
 refine wpAny_bind (wpAny_holding (wpAny_bind (wpAny_isOneOf_itemiter hT₁ ?_)))
 refine wpAny_bind (wpAny_isOneOf_itemiter hT₁ ?_)
 show wpAny _ _ (Builtin.Dict_items.pairFromOwner (.ref it) 6 e.key e.val) _ _ ⟨h₁,g,dr,tk,os⟩
 unfold Builtin.Dict_items.pairFromOwner
 refine wpAny_bind (wpAny_newTuple ?_)
 have he₂:IsItemIter (h₁.push { cls:=.type "tuple",data:=.seq #[e.key,e.val] }) it d (i+1) es.size ep ok ov:=Heap.get?_push_of_some _ he₁
 generalize hh₂:h₁.push { cls:=.type "tuple",data:=.seq #[e.key,e.val] }=h₂ at he₂
 have hz₁:h₁.objs.size=hp.objs.size:=hs₁.1
 have hil:it < hp.objs.size:=Heap.lt_size hit
 have ht₂:h₂.get? hp.objs.size=some { cls:=.type "tuple",data:=.seq #[e.key,e.val] }:=by rw [← hh₂,← hz₁]; exact Heap.get?_push_size _ rfl
 have hz₂:h₂.objs.size=hp.objs.size+1:=by rw [← hh₂,Heap.size_push,hz₁]
 have hk₂:∀ b u,b≠it→hp.get? b=some u→h₂.get? b=some u:=fun b u hb e=>by rw [← hh₂]; exact Heap.get?_push_of_some _ (hs₁.extBut b u hb e)
 show wpAny _ _ (Builtin.Dict_items.ownedTupleIsFree (.ref it) >>= _) _ _ ⟨h₂,g,dr,tk,os⟩
 rw [hz₁]
 clear hh₂ he₁ hs₁ hT₁ hz₁ h₁
 unfold Builtin.Dict_items.ownedTupleIsFree
 refine wpAny_bind (wpAny_bind (wpAny_field he₂ rfl (x:=.none) rfl (wpAny_pure ?_)))
 simp only [if_true]
 refine wpAny_bind (wpAny_field he₂ rfl (x:=ok) rfl (wpAny_bind (wpAny_field he₂ rfl (x:=ov) rfl ?_)))
 refine wpAny_bind (wpAny_setField_rec he₂ (by simp) fun h₃ he₃ hs₃=>?_)
 replace hs₃:Heap.SameBut it h₂ h₃:=hs₃
 replace he₃:IsItemIter h₃ it d (i+1) es.size ep e.key ov:=he₃
 refine wpAny_bind (wpAny_setField_rec he₃ (by simp) fun h₄ he₄ hs₄=>?_)
 replace hs₄:Heap.SameBut it h₃ h₄:=hs₄
 replace he₄:IsItemIter h₄ it d (i+1) es.size ep e.key e.val:=he₄
 refine wpAny_bind (wpAny_setField_rec he₄ (by simp) fun h₅ he₅ hs₅=>?_)
 replace hs₅:Heap.SameBut it h₄ h₅:=hs₅
 replace he₅:IsItemIterOut h₅ it d (i+1) es.size ep e.key e.val hp.objs.size:=he₅
 refine wpAny_bind (wpAny_setField_rec he₅ (by simp) fun h₆ he₆ hs₆=>?_)
 replace hs₆:Heap.SameBut it h₅ h₆:=hs₆
 replace he₆:IsItemIterOut h₆ it d (i+1) es.size ep e.key e.val hp.objs.size:=he₆
 have nit:hp.objs.size≠it:=Nat.ne_of_gt hil
 refine wpAny_bind (wpAny_letGo (wpAny_pure (wpAny_pure ⟨_,rfl,wpAny_pure (hQ h₆ he₆ ?_ ?_ ?_)⟩)))
 · exact hs₆.extBut _ _ nit (hs₅.extBut _ _ nit (hs₄.extBut _ _ nit (hs₃.extBut _ _ nit ht₂)))
 · show h₆.objs.size=hp.objs.size+1
   rw [hs₆.1,hs₅.1,hs₄.1,hs₃.1,hz₂]
 · exact fun b u hb e=>hs₆.extBut b u hb (hs₅.extBut b u hb (hs₄.extBut b u hb (hs₃.extBut b u hb (hk₂ b u hb e))))
theorem wpAny_pyNext_itemsOEnd {Q:Option Value→Shared→Prop} (hh:A.handled=none) (hit:IsItemIter s.heap it d i es.size ep ok ov) (ho:s.heap.get? d=some o) (hd:o.data = .dict es ep) (he:es[i]?=none)
  (hQ:∀ h',Heap.ExtBut it s.heap h'→Q none { s with heap:=h' }):wpAny (model prog w) A (pyNext (.ref it)) Q E s:=by
 have hT:s.TypeIs (.ref it) "dict_itemiterator":=⟨_,hit,rfl⟩
 unfold pyNext
 refine wpAny_bind (wpAny_attempt (wpAny_callSpecial?_slot (name:=Str.ofString "__next__") hT F.slot_dict_itemiterator_next
  (wpAny_call_entry F.slot_dict_itemiterator_next hT F.entry_dict_itemiterator_next ?_ (F.args_dict_itemiterator_next_1 _))))
 refine wpAny_bind (wpAny_pure (wpAny_bind (wpAny_bind ?_)))
 first | refine wpAny_bind (wpAny_typeNameOfWhole_itemiter hT (wpAny_pure ?_)) | refine wpAny_bind (wpAny_typeNameOf_itemiter hT (wpAny_pure ?_))
 refine wpAny_bind (wpAny_fieldsOf hit rfl ?_)
 have own:Builtin.Dict_items.ownsTuple "dict_itemiterator" = true:=by decide
 simp only [own,if_true]
 show wpAny _ _ (if (Value.ref d == Value.none)=true then _ else _) _ _ s
 rw [if_neg (show ¬ ((Value.ref d == Value.none)=true) from Bool.false_ne_true)]
 refine wpAny_bind (wpAny_pure (wpAny_bind (wpAny_dictEntries ho hd ?_)))
 rw [if_neg (by simp)]
 refine wpAny_bind (wpAny_pure (wpAny_bind (wpAny_dictEpoch ho hd ?_)))
 rw [if_neg (by simp)]
 refine wpAny_pure ?_
 simp only [show ¬ ((i:Int) < 0) from by omega,if_false,Int.toNat_natCast,he]
 refine wpAny_bind ?_
 first | refine wpAny_bind (wpAny_typeNameOfWhole_itemiter hT (wpAny_pure ?_)) | refine wpAny_bind (wpAny_typeNameOf_itemiter hT (wpAny_pure ?_))
 show wpAny _ _ (setField (.ref it) 2 .none >>= _) _ _ s
 refine wpAny_bind (wpAny_setField hit rfl (by simp) ?_)
 show wpAny _ _ (newExc (.type "StopIteration") [] >>= _) _ _ _
 refine wpAny_bind ?_
 simp only [newExc,newTuple]
 refine wpAny_bind (wpAny_newObj_type ?_ (by size_fits))
 refine wpAny_bind (m:=firstArgMember _ _) (wpAny_of_eq (a:=Value.none) (by first | rfl | (simp only [firstArgMember]; rfl)) ?_)
 refine wpAny_newObj_type ?_ (by size_fits)
 simp only [raiseNew]
 refine wpAny_bind (wpAny_handled ?_)
 rw [show A.in1.handled=none from hh]
 refine wpAny_bind (wpAny_pure (wpAny_throw ?_))
 refine wpAny_bind (wpAny_isInstance (T:="StopIteration") (b:=true) ⟨_,Heap.get?_push_size _ rfl,rfl⟩ isSubtype_stop ?_)
 exact wpAny_pure (hQ _ (((Heap.SameBut.update ..).extBut.push _).push _))
end
end PySem
namespace VT
open PySem PySem.Spec PyProof.Rows L2
noncomputable def itmsO (a d:Addr):HO:=.ext fun h=>h.get? a=some { cls:=.type "dict_items",data:=.fields #[.ref d] }
noncomputable def Iti (a:Addr) (o:Obj) (ks:List (List Key)):It :=
 ⟨fun i H=>FzD H a o ks∧i < ks.length,fun i H x H'=>∃ k v p vs,ks[i]?=some k∧ks.length=vs.length∧H a=some (.frz o (.dT (ks.zip vs)))∧vs[i]?=some v∧H (kAd o i)=some (.tup (k.map kV))∧H p=none∧x = .ref p∧H'=upd H p (.tup [.ref (kAd o i),v]),fun i H=>FzD H a o ks∧ks.length=i⟩
theorem FzD.entry {P:Program} {w:World} {H:Hp} {h:Heap} {a:Addr} {o:Obj} {ks:List (List Key)} {es:Array DictEntry} {ep:Nat} (ok:HOk P w H h) (z:FzD H a o ks) (hd:o.data = .dict es ep) {i:Nat} (hi:i < ks.length) :
  ∃ k v vs e,ks[i]?=some k∧ks.length=vs.length∧H a=some (.frz o (.dT (ks.zip vs)))∧vs[i]?=some v∧H (kAd o i)=some (.tup (k.map kV))∧es[i]?=some e∧e.key = .ref (kAd o i)∧RelV v e.val:=by
 have kn:=z.known ok
 obtain ⟨vs,hl,ha⟩:=z
 obtain ⟨ho,_,hm,xs,hx,o',es',ep',h1,h2,h3,h4,h5⟩:=(show ObjOk P w H h a (.frz o (.dT (ks.zip vs))) from ok a _ ha)
 rw [ho] at h1
 cases h1
 rw [hd] at h3
 cases h3
 have hv:vs[i]?=some (vs[i]'(by omega)):=List.getElem?_eq_getElem _
 have hk:ks[i]?=some ks[i]:=List.getElem?_eq_getElem hi
 have hp:(ks.zip vs)[i]?=some (ks[i],vs[i]'(by omega)):=by rw [List.getElem?_zip_eq_some]; exact ⟨hk,hv⟩
 obtain ⟨q,hq,e1,e2,e3⟩:=paired_getL hx hp
 have he:es[i]?=some (entryOfKey (tupleKind (mixKind P w)) q):=by
  rw [← Array.getElem?_toList,h4,List.getElem?_map,hq]; rfl
 have ek:kAd o i=q.2.1:=by unfold kAd; rw [hd]; dsimp only; rw [he]; rfl
 exact ⟨ks[i],vs[i]'(by omega),vs,_,hk,hl,ha,hv,by rw [ek]; exact e2,he,by rw [ek]; rfl,e3⟩
theorem turn_items {P:Program} {w:World} {K:PySem.W.Frag} {elts:List Expr} {x1} {tp:Pos} {o:Obj} {es:Array DictEntry} {ep:Nat} (ks:List (List Key)) (a it:Addr) (hd:o.data = .dict es ep) :
  Turn P w K (.Tuple elts x1 tp) (Iti a o ks) [it] it (fun i h=>∃ ok ov,IsItemIter h it a i es.size ep ok ov) where
 mem:=by simp
 obj:=fun i h st b hb=>by
  have e:b=it:=by simpa using hb
  subst e
  obtain ⟨ok,ov,st⟩:=st
  exact ⟨_,st,fun v z=>by cases z⟩
 keep:=fun i h h' ⟨ok,ov,st⟩ k=>⟨ok,ov,k it (by simp) _ st⟩
 item:=by
  intro X hP hw hK hc i pins s σ H E I hf st hg
  subst hP hw hK
  obtain ⟨ok,ov,st⟩:=st
  obtain ⟨ha,hi⟩:=hg
  obtain ⟨ho,_,_,_⟩:=ha.known I.hok
  obtain ⟨k,v,vs,e,hk,hl,hH,hv,hb,he,ek,rv⟩:=ha.entry I.hok hd hi
  obtain ⟨f0,f1,f2,f3,f4,f5⟩:=hf it (by simp)
  refine wpAny_pyNext_itemsO st ho hd he fun h' st' tup sz old=>?_
  refine ⟨_,rfl,wpAny_letOwnedTupleGo_items (s:={ s with heap:=h' }) st' fun h2 st2 sb=>?_⟩
  have sb':Heap.SameBut it h' h2:=sb
  have hlt:it < s.heap.objs.size:=Heap.lt_size st
  have nit:s.heap.objs.size≠it:=Nat.ne_of_gt hlt
  have kk:∀ b ob,b∉[it]→s.heap.get? b=some ob→h2.get? b=some ob:=fun b ob hb q=>by
   have hbi:b≠it:=fun z=>hb (by simp [z])
   exact (sb'.2 b hbi).trans (old b ob hbi q)
  have new:ObjOk X.prog X.w (upd H s.heap.objs.size (.tup [.ref (kAd o i),v])) h2 s.heap.objs.size (.tup [.ref (kAd o i),v]) :=
   ⟨by show 2≤sizeLine; rw [sizeLine_eq]; decide,[e.key,e.val],.cons (by rw [ek]; rfl) (.cons rv .nil),⟨_,(sb'.2 _ nit).trans tup,rfl,_,rfl⟩⟩
  refine ⟨.ref s.heap.objs.size,_,I.grown (t':=s.toks) kk hf (Nat.le_refl _) new,rfl,⟨k,v,_,vs,hk,hl,hH,hv,hb,I.fresh,rfl,rfl⟩,⟨_,_,st2⟩,fun b hb=>?_⟩
  have e:b=it:=by simpa using hb
  subst e
  rw [upd_ne (Nat.ne_of_lt hlt)]
  exact (hf b hb).1
 done:=by
  intro X hP hw hK hc i pins s σ H E I hf st hg
  subst hP hw hK
  obtain ⟨ok,ov,st⟩:=st
  obtain ⟨ha,hi⟩:=hg
  obtain ⟨ho,_,_,es',ep',h3,hz,hk⟩:=ha.known I.hok
  rw [hd] at h3
  cases h3
  obtain ⟨f0,f1,f2,f3,f4,f5⟩:=hf it (by simp)
  exact wpAny_pyNext_itemsOEnd (I.ok.hd hc) st ho hd (Array.getElem?_eq_none (by omega)) fun h' eb=>⟨rfl,I.turned (t':=s.toks) (fun b o hb e=>eb b o hb e) f0 f1 f3 f4 f5⟩
 self:=fun A i s Q E ⟨ok,ov,st⟩ h=>PySem.W.kcp_self st h
noncomputable def iItems (tl:TE):TI:=fun σ H R=>tl σ H fun x H1=>∃ a o ks,x = .ref a∧FzD H1 a o ks∧∀ p,H1 p=none→R (Iti a o ks) (upd H1 p (itmsO p a))
theorem pi_items {X:Cx} {elts:List Expr} {x1} {tp:Pos} {l:Expr} {tl:TE} {apos cpos:Pos} (hl:PE X l tl) (hbase:attributeBase l "items" X.env (eval l X.env)=eval l X.env:=by rfl) (hline:(apos.endLine == cpos.line)=true:=by rfl) :
  PI X (.Tuple elts x1 tp) (.Call (.Attribute l "items" apos) [] [] cpos) (iItems tl):=by
 intro pins s σ H R I h
 refine wpAny_Call_method0_late hbase hline (thn (hl pins s σ H _ I h) fun v s1 ⟨x,H1,I1,r1,d,o,ks,e,hz,q1⟩=>?_)
 subst e
 obtain rfl:v=Value.ref d:=r1
 obtain ⟨ho,hm,hc,es,ep,h3,hz',hk⟩:=hz.known I1.hok
 have hD:IsD H1 d:=.inr (let ⟨vs,_,e⟩:=hz; ⟨_,.inr ⟨o,e⟩⟩)
 obtain ⟨t1,t2,_⟩:=isD_at I1 hD
 refine ⟨"dict","dict.items",PySem.F.plainAttrs_dict,PySem.F.slot_dict_items,PySem.F.type_dict_items,t1,t2,Calls.callWith_builtin rfl (PySem.evalArgs_none ?_)⟩
 refine wpAny_call_entry PySem.F.slot_dict_items t1 PySem.F.entry_dict_items ?_ (PySem.F.args_dict_items_1 _)
 unfold Builtin.«dict.items» Builtin.Dict.noArgs
 refine wpAny_bind (wpAny_bind (wpAny_notOrdered_dict t1 (wpAny_pure ?_)))
 unfold Builtin.Dict.showsAll
 rw [if_neg (by rw [hm]; exact Bool.false_ne_true)]
 refine wpAny_bind (wpAny_pure (wpAny_bind (wpAny_newObj_type (wpAny_pure ⟨_,rfl,?_⟩))))
 have I2:Inv X pins σ (upd H1 s1.heap.objs.size (itmsO s1.heap.objs.size d)) { s1 with heap:=s1.heap.push { cls:=.type "dict_items",data:=.fields #[.ref d] } } :=
  I1.laid (a:=s1.heap.objs.size) (t':=s1.toks) (fun b o e=>Heap.get?_push_of_some _ e) (Nat.le_refl _) ⟨Heap.get?_push_size _ rfl,⟨_,Heap.get?_push_size _ rfl⟩,fun h1 h2 z k=>k _ z⟩
 refine wpAny_pyIter_itemsO (s:={ s1 with heap:=s1.heap.push { cls:=.type "dict_items",data:=.fields #[.ref d] } }) ⟨_,Heap.get?_push_size _ rfl,rfl,rfl⟩ (Heap.get?_push_of_some _ ho) h3 ?_
 refine ⟨_,[(s1.heap.push { cls:=.type "dict_items",data:=.fields #[.ref d] }).objs.size],_,_,_,rfl,I2.kept (t':=s1.toks) fun b o e=>Heap.get?_push_of_some _ e,turn_items ks d _ h3,⟨.none,.none,Heap.get?_push_size _ rfl⟩,fun b hb=>?_,q1 _ I1.fresh⟩
 have e:b=(s1.heap.push { cls:=.type "dict_items",data:=.fields #[.ref d] }).objs.size:=by simpa using hb
 subst e
 exact I2.fpOk (Nat.le_refl _) (I2.hok.fresh (Nat.le_refl _))
noncomputable def prT (p:List Key×T):T:=.tup [ktT p.1,p.2]
theorem wk_items {K:PySem.W.Frag} {a:Addr} {o:Obj} {ks:List (List Key)} {ts:List T} (hl:ks.length=ts.length):Wk K (Iti a o ks) [(.df o ks ts,.ref a)] ((ks.zip ts).map prT):=fun H A hA h i=>by
 have hs:=h _ List.mem_cons_self
 have z:=df_fz hs
 have ez:((ks.zip ts).map prT).length=ks.length:=by rw [List.length_map,List.length_zip,hl,Nat.min_self]
 rw [ez]
 refine ⟨fun hi=>⟨z,hi⟩,fun hi=>⟨z,hi⟩,fun t ht x H' y=>?_⟩
 obtain ⟨k,v,p,vs,hk,hv,hH,hvi,hb,hp,rfl,rfl⟩:=y
 simp only [At] at hs
 obtain ⟨b,vs',e,hl',hd,hq⟩:=hs
 cases e
 have e1:=hd.1
 rw [hH] at e1
 have e2:ks.zip vs=ks.zip vs':=by injection e1 with e1; injection e1 with _ e1; injection e1
 have e3:vs'=vs:=by
  have:=congrArg (List.map Prod.snd) e2
  rw [List.map_snd_zip (by omega),List.map_snd_zip (by omega)] at this
  exact this.symm
 subst e3
 have hi:i < ks.length:=(List.getElem?_eq_some_iff.mp hk).1
 have hti:ts[i]?=some (ts[i]'(by omega)):=List.getElem?_eq_getElem _
 rw [List.getElem?_map,show (ks.zip ts)[i]?=some (k,ts[i]'(by omega)) from by rw [List.getElem?_zip_eq_some]; exact ⟨hk,hti⟩] at ht
 cases ht
 obtain ⟨v',g1,g2⟩:=hq.get hti
 rw [hvi] at g1
 cases g1
 have s:Same H (upd H p (.tup [.ref (kAd o i),v])):=same_upd hp
 exact ⟨s,at_tup (SqT.of upd_same) (AtL.cons ((at_ktT hb).same s) (AtL.cons (g2.same s) AtL.nil))⟩
section
variable {X:Cx} {Z:Zc} {l:Expr}
noncomputable def fItems (f:FE):FI:=fun ρ Q=>f ρ fun t=>match t with
 | .df _ ks ts=>ks.length=ts.length∧Q ((ks.zip ts).map prT)
 | _=>False
theorem vi_items {f:FE} {elts:List Expr} {x1} {tp apos cpos:Pos} (h:VE X Z l f) (hbase:attributeBase l "items" X.env (eval l X.env)=eval l X.env:=by rfl) (hline:(apos.endLine == cpos.line)=true:=by rfl) :
  VI X Z (.Tuple elts x1 tp) (.Call (.Attribute l "items" apos) [] [] cpos) (fItems f):=.mk fun tm=>PI.weak (pi_items (h tm) hbase hline) fun σ H R ⟨ρ,O,q,I,hf,k⟩=>⟨ρ,O,_,I,hf,fun t ht v H' s a=>by
 cases t with
 | df o ks ts =>
   obtain ⟨b,rfl⟩:∃ b,v = .ref b:=by simp only [At] at a; obtain ⟨b,_,e,_⟩:=a; exact ⟨b,e⟩
   refine ⟨b,o,ks,rfl,df_fz a,fun p hp=>?_⟩
   have s2:Same H' (upd H' p (itmsO p b)):=same_upd hp
   exact k _ ht.2 _ _ [(.df o ks ts,.ref b)] (s.trans s2) (fun p hp=>by rw [List.mem_singleton.mp hp]; exact a.same s2) (wk_items ht.1)
 | _=>exact ht.elim⟩
end
end VT
namespace VT
open PySem PySem.Spec PyProof.Rows L2
structure MG where
 a:Addr
 dx:Addr
 a1:Addr
 a2:Addr
 C:Addr
 H0:Hp
 n1:a≠a1
 n2:a≠a2
 n3:a1≠a2
noncomputable def MG.Ox (M:MG):List Addr:=[M.a,M.a1,M.a2]
structure S2 where
 k1:List (List Key)
 t1:List T
 k2:List (List Key)
 t2:List T
noncomputable abbrev fN:List Str:=["names","cells"]
noncomputable def DkS (K:PySem.W.Frag) (H:Hp) (A:List Addr) (a:Addr) (ks:List (List Key)) (ts:List T):Prop:=∃ vs,ks.length=vs.length∧H a=some (.dT (ks.zip vs))∧AtL K H A ts vs
structure SD (K:PySem.W.Frag) (M:MG) (s:S2) (H:Hp):Prop where
 ins:H M.a=some (.ins M.C M.dx (fN.zip [.ref M.a1,.ref M.a2]))
 d1:DkS K H M.Ox M.a1 s.k1 s.t1
 d2:DkS K H M.Ox M.a2 s.k2 s.t2
 fr:∀ b o,M.H0 b=some o→b∉M.Ox→H b=some o
structure SG (K:PySem.W.Frag) (M:MG) (tm:List (T×V)) (ρ:En) (s:S2) (σ:St) (H:Hp):Prop where
 env:∃ O,roots O=[]∧EnvAt K ⟨H,[],M.Ox⟩ tm O ρ σ H
 sd:SD K M s H
section
variable {K:PySem.W.Frag} {M:MG} {tm:List (T×V)} {ρ:En} {s:S2} {σ:St} {H H':Hp}
theorem DkS.same {A:List Addr} {a:Addr} {ks:List (List Key)} {ts:List T} (h:DkS K H A a ks ts) (sm:Same H H'):DkS K H' A a ks ts:=let ⟨vs,l,e,q⟩:=h; ⟨vs,l,sm _ _ e,q.same sm⟩
theorem SD.same (h:SD K M s H) (sm:Same H H'):SD K M s H':=⟨sm _ _ h.ins,h.d1.same sm,h.d2.same sm,fun b o e n=>sm _ _ (h.fr b o e n)⟩
theorem SD.here (h:SD K M s H):∀ b∈M.Ox,∃ u,H b=some u∧mutO u=true:=fun b hb=>by
 obtain ⟨v1,_,e1,_⟩:=h.d1
 obtain ⟨v2,_,e2,_⟩:=h.d2
 simp only [MG.Ox,List.mem_cons,List.not_mem_nil,or_false] at hb
 rcases hb with rfl | rfl | rfl
 · exact ⟨_,h.ins,rfl⟩
 · exact ⟨_,e1,rfl⟩
 · exact ⟨_,e2,rfl⟩
theorem av_of {Z:Zc} {O:List (Option Addr)} (h:roots O=[]):av Z O=Z.Ox:=by unfold av; rw [h]; rfl
noncomputable def allV (ρ:En):Bool:=ρ.all fun e=>match e with
 | some (_,true)=>false
 | _=>true
theorem noroots {Z:Zc} {O:List (Option Addr)} (I:EnvAt K Z tm O ρ σ H) (h:allV ρ=true):roots O=[]:=by
 cases q:roots O with
 | nil=>rfl
 | cons a l =>
   exfalso
   have ha:some a∈O:=mem_roots.mp (by rw [q]; exact List.mem_cons_self)
   obtain ⟨i,hi⟩:=List.mem_iff_getElem?.mp ha
   have hl:i < ρ.length:=by rw [← I.lO]; exact (List.getElem?_eq_some_iff.mp hi).1
   have he:ρ[i]?=some ρ[i]:=List.getElem?_eq_getElem hl
   obtain ⟨o,s,h1,h2,h3⟩:=I.sl i _ he
   rw [hi] at h1
   cases h1
   have hv:=List.all_eq_true.mp h ρ[i] (List.getElem_mem hl)
   revert h3 hv
   match ρ[i] with
   | none=>intro h3 _; cases h3
   | some (t,false)=>intro h3 _; exact nomatch h3.1
   | some (t,true)=>intro _ hv; cases hv
theorem EnvAt.now {Z:Zc} {O:List (Option Addr)} (I:EnvAt K Z tm O ρ σ H) (h:roots O=[]):EnvAt K ⟨H,[],Z.Ox⟩ tm O ρ σ H:=by
 have e:av ⟨H,[],Z.Ox⟩ O=av Z O:=rfl
 exact ⟨I.lσ,I.lO,I.sl,I.nd,fun a ha=>(by rw [h] at ha; exact absurd ha List.not_mem_nil),fun p hp=>absurd hp List.not_mem_nil,I.ox,fun b o e _=>e,I.tmp⟩
theorem SG.of {Z:Zc} {O:List (Option Addr)} (hZ:Z=⟨H,[],M.Ox⟩) {ρ':En} {σ':St} (d:SD K M s H) (I:EnvAt K Z tm O ρ' σ' H') (hv:allV ρ'=true):SG K M tm ρ' s σ' H':=by
 subst hZ
 exact ⟨⟨O,noroots I hv,I.now (noroots I hv)⟩,d.same fun b o e=>I.keep b o e (fun z=>absurd z List.not_mem_nil)⟩
noncomputable def upE (M:MG) (s:S2):Option (T×Bool)→Option (T×Bool)
 | some (.ob x,false)=>if x=M.a1 then some (.dt s.k1 s.t1,false) else if x=M.a2 then some (.dt s.k2 s.t2,false) else if x=M.a then some (.ins M.C fN [.pin M.a1 (.dt s.k1 s.t1),.pin M.a2 (.dt s.k2 s.t2)],false) else some (.ob x,false)
 | e=>e
theorem up_a (M:MG) (s:S2):upE M s (some (.ob M.a,false))=some (.ins M.C fN [.pin M.a1 (.dt s.k1 s.t1),.pin M.a2 (.dt s.k2 s.t2)],false):=by
 show (if M.a=M.a1 then _ else _)=_
 rw [if_neg M.n1,if_neg M.n2,if_pos rfl]
theorem up_1 (M:MG) (s:S2):upE M s (some (.ob M.a1,false))=some (.dt s.k1 s.t1,false):=by
 show (if M.a1=M.a1 then _ else _)=_
 rw [if_pos rfl]
noncomputable def vwO (b:Option T):Option (T×Bool):=b.map fun t=>(t,false)
theorem allV_nil:allV []=true:=rfl
theorem allV_v (b:Option T) (ρ:En):allV (vwO b :: ρ)=allV ρ:=by cases b <;> rfl
theorem allV_s (t:T) (ρ:En):allV (some (t,false) :: ρ)=allV ρ:=rfl
theorem DkS.at {A:List Addr} {a:Addr} {ks:List (List Key)} {ts:List T} (h:DkS K H A a ks ts):At K H [] (.dt ks ts) (.ref a):=by
 obtain ⟨vs,l,e,q⟩:=h
 simp only [At]
 exact ⟨a,vs,rfl,l,⟨e,fun z=>nomatch z⟩,q.fewer fun b hb=>nomatch hb⟩
theorem SD.at (h:SD K M s H):At K H [] (.ins M.C fN [.pin M.a1 (.dt s.k1 s.t1),.pin M.a2 (.dt s.k2 s.t2)]) (.ref M.a):=by
 unfold At
 refine ⟨M.a,M.dx,[.ref M.a1,.ref M.a2],rfl,rfl,⟨h.ins,fun z=>nomatch z⟩,AtL.cons ?_ (AtL.cons ?_ AtL.nil)⟩
 · unfold At; exact ⟨rfl,h.d1.at⟩
 · unfold At; exact ⟨rfl,h.d2.at⟩
theorem SG.up (g:SG K M tm ρ s σ H):∃ O,roots O=[]∧EnvAt K ⟨H,[],[]⟩ tm O (ρ.map (upE M s)) σ H:=by
 obtain ⟨O,hr,I⟩:=g.env
 refine ⟨O,hr,⟨by rw [List.length_map]; exact I.lσ,by rw [List.length_map]; exact I.lO,fun i e he=>?_,I.nd,fun a ha=>(by rw [hr] at ha; exact absurd ha List.not_mem_nil),fun p hp=>absurd hp List.not_mem_nil,fun a ha=>absurd ha List.not_mem_nil,fun b o e _=>e,fun p hp=>?_⟩⟩
 · have e0:av ⟨H,[],[]⟩ O=[]:=av_of hr
   rw [List.getElem?_map] at he
   cases q:ρ[i]? with
   | none=>rw [q] at he; cases he
   | some e1 =>
     rw [q] at he
     cases he
     obtain ⟨o,sv,h1,h2,h3⟩:=I.sl i e1 q
     refine ⟨o,sv,h1,h2,?_⟩
     rw [e0]
     have plain:SlotAt K H [] e1 o sv:=by
      refine h3.map (fun t v z=>z.fewer fun b hb=>nomatch hb) fun a t eo _=>?_
      subst eo
      have:a∈roots O:=mem_roots.mpr (List.mem_of_getElem? h1)
      rw [hr] at this
      exact nomatch this
     match e1,h3,plain with
     | some (.ob x,false),⟨eo,v,es,av'⟩,plain =>
       simp only [At] at av'
       subst av'
       show SlotAt K H [] (if x=M.a1 then _ else _) o sv
       by_cases c1:x=M.a1
       · rw [if_pos c1]; subst c1; exact ⟨eo,_,es,g.sd.d1.at⟩
       · rw [if_neg c1]
         by_cases c2:x=M.a2
         · rw [if_pos c2]; subst c2; exact ⟨eo,_,es,g.sd.d2.at⟩
         · rw [if_neg c2]
           by_cases c3:x=M.a
           · rw [if_pos c3]; subst c3; exact ⟨eo,_,es,g.sd.at⟩
           · rw [if_neg c3]; exact plain
     | none,_,plain=>exact plain
     | some (t,true),_,plain =>
       have:upE M s (some (t,true))=some (t,true):=by cases t <;> rfl
       rw [this]; exact plain
     | some (.non,false),_,plain=>exact plain
     | some (.bl _,false),_,plain=>exact plain
     | some (.int _,false),_,plain=>exact plain
     | some (.str _,false),_,plain=>exact plain
     | some (.tup _,false),_,plain=>exact plain
     | some (.lst _,false),_,plain=>exact plain
     | some (.dk _ _,false),_,plain=>exact plain
     | some (.dt _ _,false),_,plain=>exact plain
     | some (.df _ _ _,false),_,plain=>exact plain
     | some (.dz _ _ _,false),_,plain=>exact plain
     | some (.kt _,false),_,plain=>exact plain
     | some (.ins _ _ _,false),_,plain=>exact plain
     | some (.pin _ _,false),_,plain=>exact plain
     | some (.ty _,false),_,plain=>exact plain
 · rw [av_of hr]
   exact (I.tmp p hp).fewer fun b hb=>nomatch hb
end
end VT
namespace VT
open PySem PySem.Spec PyProof.Rows L2
structure GEn where
 nx:En→S2→Prop
 rt:S2→T→Prop
 bk:En→S2→Prop:=fun _ _=>False
 ct:En→S2→Prop:=fun _ _=>False
structure FinG (K:PySem.W.Frag) (M:MG) (tm:List (T×V)) (d:GEn) (D:Ends):Prop where
 nx:∀ ρ s σ H,SG K M tm ρ s σ H→d.nx ρ s→D.nx σ H
 rt:∀ s H t v,SD K M s H→At K H M.Ox t v→d.rt s t→D.rt v H
 bk:∀ ρ s σ H,SG K M tm ρ s σ H→d.bk ρ s→D.bk σ H
 ct:∀ ρ s σ H,SG K M tm ρ s σ H→d.ct ρ s→D.ct σ H
noncomputable abbrev FG2:=GEn→En→S2→Prop
noncomputable def lGS (X:Cx) (M:MG) (tm:List (T×V)) (g:FG2):TS:=fun D σ H=>∃ ρ s d,SG X.K M tm ρ s σ H∧g d ρ s∧FinG X.K M tm d D
noncomputable def GS (X:Cx) (M:MG) (st:Stmt) (g:FG2):Prop:=Bx fun tm=>PS X st (lGS X M tm g)
noncomputable def GSs (X:Cx) (M:MG) (st:List Stmt) (g:FG2):Prop:=Bx fun tm=>PSs X st (lGS X M tm g)
section
variable {X:Cx} {M:MG} {st:Stmt} {rest:List Stmt} {g u:FG2} {e:Expr} {pos:Pos}
noncomputable def wNext:FG2:=fun d ρ s=>d.nx ρ s
noncomputable def wSeq (g u:FG2):FG2:=fun d ρ s=>g { d with nx:=u d } ρ s
theorem gss_nil:GSs X M [] wNext:=.mk fun tm=>PSs.weak' pss_nil fun D σ H ⟨ρ,s,d,I,h,F⟩=>F.nx ρ s σ H I h
theorem gss_cons (h1:GS X M st g) (h2:GSs X M rest u):GSs X M (st :: rest) (wSeq g u):=.mk fun tm=>PSs.weak' (pss_cons (h1.h tm) (h2.h tm)) fun D σ H ⟨ρ,s,d,I,h,F⟩ =>
 ⟨ρ,s,{ d with nx:=u d },I,h,⟨fun ρ' s' σ' H' I' h'=>⟨ρ',s',d,I',h',F⟩,F.rt,F.bk,F.ct⟩⟩
theorem gss_one (h1:GS X M st g):GSs X M [st] g:=.mk fun tm=>pss_one (h1.h tm)
noncomputable def dPlG (d:GEn) (s:S2):VEn:={ nx:=fun ρ'=>allV ρ'=true∧d.nx ρ' s,rt:=fun ρ' r=>allV ρ'=true∧d.rt s r.t,bk:=fun ρ'=>allV ρ'=true∧d.bk ρ' s,ct:=fun ρ'=>allV ρ'=true∧d.ct ρ' s }
noncomputable def wPl (g:FS):FG2:=fun d ρ s=>g (dPlG d s) ρ
theorem finPl {K:PySem.W.Frag} {tm:List (T×V)} {d:GEn} {D:Ends} {s:S2} {H:Hp} (F:FinG K M tm d D) (sd:SD K M s H):Fin K ⟨H,[],M.Ox⟩ tm (dPlG d s) D :=
 ⟨fun O ρ σ H' I h=>F.nx ρ s σ H' (SG.of rfl sd I h.1) h.2,fun O ρ σ H' r v z h=>by
   have I:=z.env
   have hr:=noroots I h.1
   have a:=z.at
   rw [av_of hr] at a
   exact F.rt s H' r.t v (sd.same fun b o e=>I.keep b o e (fun q=>absurd q List.not_mem_nil)) a h.2,fun O ρ σ H' I h=>F.bk ρ s σ H' (SG.of rfl sd I h.1) h.2,fun O ρ σ H' I h=>F.ct ρ s σ H' (SG.of rfl sd I h.1) h.2⟩
theorem gs_plain {g:FS} (h:∀ H0 Ox,VS X ⟨H0,[],Ox⟩ st g):GS X M st (wPl g):=.mk fun tm pins s' σ H D J ⟨ρ,s,d,S,hg,F⟩=>by
 obtain ⟨O,hr,I⟩:=S.env
 exact h H M.Ox tm pins s' σ H D J ⟨ρ,O,_,I,hg,finPl F S.sd⟩
noncomputable def wIf (c:FB) (g u:FG2):FG2:=fun d ρ s=>c ρ fun b=>if b=true then g d ρ s else u d ρ s
theorem SG.keepOn {K:PySem.W.Frag} {tm:List (T×V)} {ρ:En} {s:S2} {σ:St} {H H':Hp} (S:SG K M tm ρ s σ H) (sm:Same H H'):SG K M tm ρ s σ H':=by
 obtain ⟨O,hr,I⟩:=S.env
 exact ⟨⟨O,hr,(I.same sm).now hr⟩,S.sd.same sm⟩
theorem gs_if {c:Expr} {fc:FB} {a b:List Stmt} (hc:∀ H0 Ox,VC X ⟨H0,[],Ox⟩ c fc) (ha:GSs X M a g) (hb:GSs X M b u):GS X M (.If c a b pos) (wIf fc g u):=.mk fun tm pins s' σ H D J ⟨ρ,s,d,S,hg,F⟩=>by
 obtain ⟨O,hr,I⟩:=S.env
 refine ps_if (hc H M.Ox tm) (ha.h tm) (hb.h tm) pins s' σ H D J ⟨ρ,O,_,I,hg,fun b hb H' sm=>?_⟩
 cases b with
 | true=>rw [if_pos rfl] at hb ⊢; exact ⟨ρ,s,d,S.keepOn sm,hb,F⟩
 | false=>rw [if_neg Bool.false_ne_true] at hb ⊢; exact ⟨ρ,s,d,S.keepOn sm,hb,F⟩
noncomputable def flatI (t:T):Prop:=(∃ n,t = .int n)∨∃ b,t = .bl b
noncomputable def wSet (M:MG) (i:Nat) (f:FE):FG2:=fun d ρ s=>f (ρ.map (upE M s)) fun t=>flatI t∧d.nx (ρ.set i (some (t,false))) s
theorem flatI_at {K:PySem.W.Frag} {H H':Hp} {A A':List Addr} {t:T} {v:V} (h:flatI t) (a:At K H A t v):At K H' A' t v:=by
 rcases h with ⟨n,rfl⟩ | ⟨b,rfl⟩
 · simp only [At] at a ⊢; exact a
 · simp only [At] at a ⊢; exact a
theorem gs_set {i:Nat} {x:Str} {f:FE} {pos':Pos} (hN:X.N.Nodup) (hi:X.N[i]?=some x) (hx:Loc X.env.scope x) (he:∀ H0 Ox,VE X ⟨H0,[],Ox⟩ e f) (hs:swapsWith e (some (.Name x pos')) pos.line X.env=pure false:=by rfl)
  (hf:X.fn x=true∨X.env.scope.names.lookup x=some .local:=by first | exact .inl rfl | exact .inr rfl | assumption):GS X M (.Assign [.Name x pos'] e pos) (wSet M i f):=.mk fun tm pins s' σ H D J ⟨ρ,s,d,S,hg,F⟩=>by
 obtain ⟨O,hr,I⟩:=S.env
 obtain ⟨O2,hr2,I2⟩:=S.up
 refine ps_set hN hi hx (he H [] tm) hs hf pins s' σ H D J ⟨_,O2,_,I2,hg,fun t ht v H' sm a=>?_⟩
 have S':=S.keepOn sm
 obtain ⟨O3,hr3,I3⟩:=S'.env
 refine F.nx _ s _ H' ⟨⟨O3.set i none,?_,?_⟩,S'.sd⟩ ht.2
 · cases q:roots (O3.set i none) with
   | nil=>rfl
   | cons b l =>
     have:=roots_set_sub (O:=O3) i b (by rw [q]; exact List.mem_cons_self)
     rw [hr3] at this
     exact absurd this List.not_mem_nil
 · exact I3.put (fun p hp=>absurd hp List.not_mem_nil) (flatI_at ht.1 a)
noncomputable def S2.put1 (s:S2) (k:List Key) (t:T):S2:={ s with k1:=gKs s.k1 k,t1:=gVs s.k1 s.t1 k t }
noncomputable def wPut1 (M:MG) (n m:Nat) (f:FE):FG2:=fun d ρ s=>f ρ fun t=>flatI t∧ρ[n]?=some (some (.ob M.a1,false))∧s.t1.length < 16777216∧∃ k,ρ[m]?=some (some (.kt k,false))∧d.nx ρ (s.put1 k t)
theorem gs_put1 (n m:Nat) {x y:Str} {p p2 tpos:Pos} {f:FE} (hu:X.A.units+1 < cLine) (he:∀ H0 Ox,VE X ⟨H0,[],Ox⟩ e f)
  (hN:X.N[n]?=some x:=by rfl) (hv:Vis X.env.scope x:=by first | exact Or.inl rfl | exact Or.inr (Or.inl rfl) | exact Or.inr (Or.inr rfl)) (hd:(x == ("__debug__" : Str))=false:=by decide) (hcd:(x == ("__classdict__" : Str))=false:=by decide)
  (hN2:X.N[m]?=some y:=by rfl) (hv2:Vis X.env.scope y:=by first | exact Or.inl rfl | exact Or.inr (Or.inl rfl) | exact Or.inr (Or.inr rfl)) (hd2:(y == ("__debug__" : Str))=false:=by decide) (hcd2:(y == ("__classdict__" : Str))=false:=by decide)
  (hs:swapsWith e (some (.Subscript (.Name x p) (.Name y p2) tpos)) pos.line X.env=pure false:=by rfl):GS X M (.Assign [.Subscript (.Name x p) (.Name y p2) tpos] e pos) (wPut1 M n m f):=.mk fun tm pins s' σ H D J ⟨ρ,s,d,S,hg,F⟩=>by
 obtain ⟨O,hr,I⟩:=S.env
 refine ps_dput hu (pe_var hN hv hd hcd) (pe_var hN2 hv2 hd2 hcd2) (he H M.Ox tm) hs pins s' σ H D J ⟨ρ,O,_,I,hg,fun t ht v H1 sm a=>?_⟩
 obtain ⟨hfl,hn,hlen,k,hk,hq⟩:=ht
 have S1:=S.keepOn sm
 obtain ⟨O1,hr1,I1⟩:=S1.env
 obtain ⟨_,_,_,z1,_,v1,rfl,b1⟩:=I1.sl n _ hn
 obtain ⟨_,_,_,z2,_,v2,rfl,b2⟩:=I1.sl m _ hk
 simp only [At] at b1
 subst b1
 rw [av_of hr1] at b2
 simp only [At] at b2
 obtain ⟨b,rfl,hb,_⟩:=b2
 obtain ⟨vs,hl,h1,h2⟩:=S1.sd.d1
 have hz:(s.k1.zip vs).length < sizeLine:=by
  rw [sizeLine_eq,List.length_zip,hl,Nat.min_self,h2.length]
  omega
 have pq:=g_put s.k1 vs k v hl
 refine ⟨.ref M.a1,z1,.ref b,z2,M.a1,_,rfl,DPut.t h1 hb hz,?_⟩
 rw [pq.1]
 have hm1:M.a1∈M.Ox:=by simp [MG.Ox]
 have wr:∀ {t:T} {v':V},At X.K H1 M.Ox t v'→At X.K (upd H1 M.a1 (.dT ((gKs s.k1 k).zip (gVs s.k1 vs k v)))) M.Ox t v':=fun q=>At.wrote hm1 h1 rfl q
 have wrL:∀ {t:List T} {v':List V},AtL X.K H1 M.Ox t v'→AtL X.K (upd H1 M.a1 (.dT ((gKs s.k1 k).zip (gVs s.k1 vs k v)))) M.Ox t v':=fun q=>AtL.wrote hm1 h1 rfl q
 have na:M.a≠M.a1:=M.n1
 refine F.nx ρ (s.put1 k t) σ _ ⟨⟨O1,hr1,I1.lσ,I1.lO,fun i e he=>?_,I1.nd,fun b hb=>(by rw [hr1] at hb; exact absurd hb List.not_mem_nil),fun p hp=>absurd hp List.not_mem_nil,fun b hb=>?_,fun b o e _=>e,fun p hp=>?_⟩,?_,?_,?_,fun b o e n=>(by rw [upd_ne (fun z=>n (by rw [z]; exact hm1))]; exact S1.sd.fr b o e n)⟩ hq
 · obtain ⟨o,sv,g1,g2,g3⟩:=I1.sl i e he
   refine ⟨o,sv,g1,g2,?_⟩
   rw [av_of hr1] at g3 ⊢
   refine g3.map (fun t v z=>wr z) fun b t' eo _=>?_
   subst eo
   have:=mem_roots.mpr (List.mem_of_getElem? g1)
   rw [hr1] at this
   exact absurd this List.not_mem_nil
 · by_cases e:b=M.a1
   · rw [e,upd_same]; simp
   · rw [upd_ne e]
     obtain ⟨u,eu,_⟩:=S1.sd.here b hb
     rw [eu]; simp
 · have:=I1.tmp p hp
   rw [av_of hr1] at this ⊢
   exact wr this
 · rw [upd_ne na]; exact S1.sd.ins
 · exact ⟨_,pq.2,upd_same,wrL (gVs_at h2 (flatI_at hfl a))⟩
 · obtain ⟨vs2,l2,e2,q2⟩:=S1.sd.d2
   exact ⟨vs2,l2,by rw [upd_ne (Ne.symm M.n3)]; exact e2,wrL q2⟩
noncomputable def LoopG (ts:List T) (h:FG) (g:FG2):FG2:=fun d ρ s=>∃ Pv:Nat→En→S2→Prop,Pv 0 ρ s∧(∀ (i:Nat) t ρ' s',ts[i]?=some t→Pv i ρ' s'→h t ρ' fun ρ2=>allV ρ2=true∧g { nx:=Pv (i+1),ct:=Pv (i+1),bk:=d.nx,rt:=d.rt } ρ2 s')∧∀ ρ' s',Pv ts.length ρ' s'→d.nx ρ' s'
theorem loop_core {K:PySem.W.Frag} {is:List Nat} {h:FG} {tm srcs:List (T×V)} {ρ:En} {s:S2} {d:GEn} {D:Ends} {ts:List T} {J:It} {σ:St} {H:Hp} (hK:X.K=K) (S:SG K M (srcs ++ tm) ρ s σ H) (wk:Wk K J srcs ts) (F:FinG K M tm d D) (hl:LoopG ts h g d ρ s) :
  ∃ W:Nat→Nat→St→Hp→Prop,(∃ m,W 0 m σ H)∧∀ i m σ H,W i m σ H→(J.stop i H∧D.nx σ H)∨(J.go i H∧∃ N:St→Hp→Prop,(∀ σ' H',N σ' H'→∃ m',m' < m∧W (i+1) m' σ' H') ∧
   ∀ x H',J.yld i H x H'→(∃ srcs H0,lG X ⟨H0,[],M.Ox⟩ (srcs ++ tm) is h x σ H' fun σ2 H2=>(∃ srcs,lGS X M (srcs ++ tm) g { D with nx:=N,ct:=N,bk:=D.nx } σ2 H2))):=by
 subst hK
 obtain ⟨Pv,p0,step,fin⟩:=hl
 have un:∀ {ρ:En} {s:S2} {σ:St} {H:Hp},SG X.K M (srcs ++ tm) ρ s σ H→SG X.K M tm ρ s σ H:=fun ⟨⟨O,hr,I⟩,sd⟩=>⟨⟨O,hr,I.tmps fun p hp=>I.tmp p (List.mem_append_right _ hp)⟩,sd⟩
 refine ⟨fun i m σ H=>m=ts.length - i∧i≤ts.length∧∃ ρ s,SG X.K M (srcs ++ tm) ρ s σ H∧Pv i ρ s,⟨ts.length,by simp,Nat.zero_le _,ρ,s,S,p0⟩,?_⟩
 rintro i m σ1 H1 ⟨rfl,hi,ρ1,s1,S1,p1⟩
 obtain ⟨O1,hr1,I1⟩:=S1.env
 obtain ⟨w1,w2,w3⟩:=wk H1 M.Ox (fun a ha=>by obtain ⟨u,e,_⟩:=S1.sd.here a ha; rw [e]; simp) (fun p hp=>by have:=I1.tmp p (List.mem_append_left _ hp); rw [av_of hr1] at this; exact this) i
 by_cases hlt:i < ts.length
 · refine .inr ⟨w1 hlt,fun σ' H'=>∃ ρ s,SG X.K M (srcs ++ tm) ρ s σ' H'∧Pv (i+1) ρ s,fun σ' H' ⟨ρ',s',S',p'⟩=>⟨ts.length - (i+1),by omega,rfl,hlt,ρ',s',S',p'⟩,fun x H2 y=>?_⟩
   have e:ts[i]?=some ts[i]:=by simp [hlt]
   obtain ⟨s2,a2⟩:=w3 ts[i] e x H2 y
   have S2':=S1.keepOn s2
   obtain ⟨O2,hr2,I2⟩:=S2'.env
   refine ⟨srcs,H2,ρ1,O2,ts[i],_,I2,by rw [av_of hr2]; exact a2,step i _ ρ1 s1 e p1,fun ρ2 h2 O3 σ3 I3 _ _ _ _=>⟨srcs,ρ2,s1,_,SG.of rfl S2'.sd I3 h2.1,h2.2,?_⟩⟩
   exact ⟨fun ρ s σ H I p=>⟨ρ,s,I,p⟩,fun s H t v sd a p=>F.rt s H t v sd a p,fun ρ s σ H I p=>F.nx ρ s σ H (un I) p,fun ρ s σ H I p=>⟨ρ,s,I,p⟩⟩
 · have e:i=ts.length:=by omega
   subst e
   exact .inl ⟨w2 rfl,F.nx ρ1 s1 σ1 H1 (un S1) (fin ρ1 s1 p1)⟩
noncomputable def wFor (f:FI) (h:FG) (g:FG2):FG2:=fun d ρ s=>f ρ fun ts=>LoopG ts h g d ρ s
theorem SG.temps {K:PySem.W.Frag} {tm srcs:List (T×V)} {ρ:En} {s:S2} {σ:St} {H:Hp} (S:SG K M tm ρ s σ H) (h:∀ p∈srcs,At K H M.Ox p.1 p.2):SG K M (srcs ++ tm) ρ s σ H:=by
 obtain ⟨O,hr,I⟩:=S.env
 refine ⟨⟨O,hr,I.tmps fun p hp=>?_⟩,S.sd⟩
 rcases List.mem_append.mp hp with z | z
 · rw [av_of hr]; exact h p z
 · exact I.tmp p z
theorem gs_for {tg iter:Expr} {body:List Stmt} {f:FI} {is:List Nat} {h:FG} (hp:PassesOwn (model X.prog X.w) X.A X.env X.xe) (hc:X.calm=true) (hi:∀ H0 Ox,VI X ⟨H0,[],Ox⟩ tg iter f) (hg:∀ H0 Ox,VG X ⟨H0,[],Ox⟩ tg is h) (hb:GSs X M body g)
  (hs:∀ x,foldedSetIterable iter X.env x=pure x:=by intro _; rfl):GS X M (.For tg iter body [] pos) (wFor f h g):=by
 refine .mk fun tm pins s' σ H D J ⟨ρ,s,d,S,hq,F⟩=>?_
 obtain ⟨O,hr,I⟩:=S.env
 refine ps_for (wi:=lI X ⟨H,[],M.Ox⟩ tm f) (g:=fun v σ H Q=>∃ srcs H0,lG X ⟨H0,[],M.Ox⟩ (srcs ++ tm) is h v σ H Q) (tb:=fun D σ H=>∃ srcs,lGS X M (srcs ++ tm) g D σ H) hp hc (hi H M.Ox tm) (fun pins s σ H v u Q I r ⟨srcs,H0,z⟩=>hg H0 M.Ox (srcs ++ tm) pins s σ H v u Q I r z) (fun pins s σ H D I ⟨srcs,z⟩=>hb.h (srcs ++ tm) pins s σ H D I z) hs pins s' σ H D J ?_
 refine ⟨ρ,O,_,I,hq,fun ts hts J' H' srcs sm a wk=>?_⟩
 rw [av_of hr] at a
 exact loop_core rfl ((S.keepOn sm).temps a) wk F hts
noncomputable def opq:T→Option T
 | .tup [.pin a _,.kt k,.int w]=>some (.tup [.ob a,.kt k,.int w])
 | _=>none
noncomputable def opqs:List T→Option (List T)
 | []=>some []
 | t :: ts=>match opq t,opqs ts with
   | some u,some us=>some (u :: us)
   | _,_=>none
theorem opq_at {K:PySem.W.Frag} {H:Hp} {A:List Addr} {t u:T} {v:V} (hA:∀ b∈A,∃ o,H b=some o∧mutO o=true) (e:opq t=some u) (a:At K H [] t v):At K H A u v:=by
 unfold opq at e
 split at e
 · rename_i a' t' k w
   cases e
   obtain ⟨b,us,rfl,h2,h3⟩:=AtR.tup (.inl a)
   simp only [AtL,At] at h3
   obtain ⟨_,_,rfl,⟨rfl,_⟩,_,_,rfl,⟨kb,rfl,hk⟩,_,_,rfl,rfl,rfl⟩:=h3
   refine at_tup h2 (AtL.cons (by simp only [At]) (AtL.cons ?_ (AtL.cons at_int AtL.nil)))
   simp only [At]
   refine ⟨kb,rfl,hk.1,fun z=>?_⟩
   obtain ⟨o,eo,mo⟩:=hA kb z
   rw [hk.1] at eo
   cases eo
   cases mo
 · cases e
theorem opqs_at {K:PySem.W.Frag} {H:Hp} {A:List Addr} (hA:∀ b∈A,∃ o,H b=some o∧mutO o=true):∀ {ts us:List T} {vs:List V},opqs ts=some us→AtL K H [] ts vs→AtL K H A us vs
 | [],us,vs,e,a=>by
   cases e
   simp only [AtL] at a ⊢
   exact a
 | t :: ts,us,vs,e,a=>by
   simp only [opqs] at e
   split at e
   · rename_i u us' e1 e2
     cases e
     simp only [AtL] at a
     obtain ⟨v,r,rfl,h1,h2⟩:=a
     exact AtL.cons (opq_at hA e1 h1) (opqs_at hA e2 h2)
   · cases e
noncomputable def wForU (M:MG) (f:FE) (h:FG) (g:FG2):FG2:=fun d ρ s=>f (ρ.map (upE M s)) fun t=>match t with
 | .lst us=>∃ ts,opqs us=some ts∧LoopG ts h g d ρ s
 | _=>False
theorem gs_forU {tg iter:Expr} {body:List Stmt} {f:FE} {is:List Nat} {h:FG} (hp:PassesOwn (model X.prog X.w) X.A X.env X.xe) (hc:X.calm=true) (hi:∀ H0 Ox,VE X ⟨H0,[],Ox⟩ iter f) (hg:∀ H0 Ox,VG X ⟨H0,[],Ox⟩ tg is h) (hb:GSs X M body g)
  (hs:∀ x,foldedSetIterable iter X.env x=pure x:=by intro _; rfl):GS X M (.For tg iter body [] pos) (wForU M f h g):=by
 refine .mk fun tm pins s' σ H D J ⟨ρ,s,d,S,hq,F⟩=>?_
 obtain ⟨O2,hr2,I2⟩:=S.up
 refine ps_for (wi:=iSeq X.K (lE X ⟨H,[],[]⟩ tm f)) (g:=fun v σ H Q=>∃ srcs H0,lG X ⟨H0,[],M.Ox⟩ (srcs ++ tm) is h v σ H Q) (tb:=fun D σ H=>∃ srcs,lGS X M (srcs ++ tm) g D σ H) hp hc (pi_seq (hi H [] tm)) (fun pins s σ H v u Q I r ⟨srcs,H0,z⟩=>hg H0 M.Ox (srcs ++ tm) pins s σ H v u Q I r z) (fun pins s σ H D I ⟨srcs,z⟩=>hb.h (srcs ++ tm) pins s σ H D I z) hs pins s' σ H D J ?_
 refine ⟨_,O2,_,I2,hq,fun t ht v H' sm a=>?_⟩
 split at ht
 · rename_i us
   obtain ⟨ts,et,hl⟩:=ht
   rw [av_of hr2] at a
   simp only [At] at a
   obtain ⟨l,vs,rfl,hls,hv⟩:=a
   have S':=S.keepOn sm
   have at':At X.K H' M.Ox (.lst ts) (.ref l):=by
    simp only [At]
    refine ⟨l,vs,rfl,?_,opqs_at S'.sd.here et hv⟩
    rcases hls with z | z
    · refine .inl ⟨z.1,fun m=>?_⟩
      obtain ⟨o,eo,mo⟩:=S'.sd.here l m
      rcases z.1 with q | ⟨o',q⟩
      · rw [eo] at q
        cases q
        simp only [MG.Ox,List.mem_cons,List.not_mem_nil,or_false] at m
        obtain ⟨_,_,e1,_⟩:=S'.sd.d1
        obtain ⟨_,_,e2,_⟩:=S'.sd.d2
        rcases m with rfl | rfl | rfl
        · rw [S'.sd.ins] at eo; cases eo
        · rw [e1] at eo; cases eo
        · rw [e2] at eo; cases eo
      · rw [eo] at q; cases q; cases mo
    · exact .inr z
   refine .inl ⟨l,rfl,⟨vs,hls.sq⟩,?_⟩
   exact loop_core rfl (S'.temps (srcs:=[(.lst ts,.ref l)]) fun p hp=>by rw [List.mem_singleton.mp hp]; exact at') wk_list F hl
 · exact ht.elim
end
end VT
namespace VT
open PySem PySem.Spec PyProof.Rows L2
section
variable {X:Cx} {Z:Zc} {e a b:Expr} {es:List Expr} {fa fb fc:FE} {g:FA} {pos:Pos}
noncomputable def fTupK (g:FA):FP:=fun ρ Q=>g ρ fun ys=>match keysT ys with
 | some k=>ys.length≤sizeLine∧Q (.vw (.kt k))
 | none=>False
theorem vp_tupK {x1} (h:VA X Z es g):VP X Z (.Tuple es x1 pos) (fTupK g):=.mk fun tm=>PE.weak (pe_tup (h tm)) fun σ H Q ⟨ρ,O,q,I,hf,k⟩=>⟨ρ,O,_,I,hf,fun ys hy vs H1 s1 a1=>by
 split at hy
 · rename_i kk ek
   refine ⟨by rw [a1.length]; exact hy.1,fun p hp=>?_⟩
   have s2:Same H1 (upd H1 p (.tup vs)):=same_upd hp
   refine k _ hy.2 _ _ (s1.trans s2) ⟨(I.same s1).same s2,?_⟩
   simp only [At]
   exact ⟨p,rfl,by rw [← keysT_at a1 ek]; exact upd_same,fun z=>(I.same s1).avH p z hp⟩
 · exact hy.elim⟩
noncomputable def dtOf:T→Option (List (List Key)×List T)
 | .dt ks ts=>some (ks,ts)
 | .pin _ (.dt ks ts)=>some (ks,ts)
 | _=>none
theorem dtOf_at {K:PySem.W.Frag} {H:Hp} {A:List Addr} {t:T} {v:V} {ks:List (List Key)} {ts:List T} (h:AtR K H A t v) (e:dtOf t=some (ks,ts)):∃ a vs,v = .ref a∧ks.length=vs.length∧H a=some (.dT (ks.zip vs))∧AtL K H A ts vs:=by
 unfold dtOf at e
 split at e
 · cases e; exact h.dt
 · cases e
   rcases h with h | ⟨_,_,r⟩
   · simp only [At] at h
     obtain ⟨_,h⟩:=h
     exact AtR.dt (.inl (by simp only [At]; exact h))
   · exact r.elim
 · cases e
noncomputable def fDGV (fa fb fc:FE):FP:=fun ρ Q=>fa ρ fun x=>match dtOf x with
 | some (ks,ts)=>fb ρ fun y=>fc ρ fun z=>match y with
   | .kt k=>Q (.vw ((gGet ks ts k).getD z))
   | _=>False
 | none=>False
theorem vp_dgV {c:Expr} {apos cpos:Pos} (hu:X.A.units+1 < cLine) (ha:VR X Z a fa) (hb:VE X Z b fb) (hc:VE X Z c fc) (m:M2 X a "get" apos b c cpos):VP X Z (.Call (.Attribute a "get" apos) [b,c] [] cpos) (fDGV fa fb fc):=.mk fun tm=>PE.weak (pe_dget2 hu (ha tm) (hb tm) (hc tm) m) fun σ H Q ⟨ρ,O,q,I,hf,k⟩ =>
 ⟨ρ,O,_,I,hf,fun x hx v H1 s1 a1=>by
   split at hx
   · rename_i ks ts ed
     obtain ⟨l,vs,rfl,hl,hd,hv⟩:=dtOf_at a1 ed
     refine ⟨l,rfl,.inr ⟨_,.inl hd⟩,ρ,O,_,I.same s1,hx,fun y hy w H2 s2 a2=>⟨ρ,O,_,(I.same s1).same s2,hy,fun z hz u H3 s3 a3=>?_⟩⟩
     split at hz
     · rename_i kk
       simp only [At] at a2
       obtain ⟨b,rfl,hb,_⟩:=a2
       refine ⟨_,.inr ⟨_,kk,b,.inl (s3 _ _ (s2 _ _ hd)),rfl,s3 _ _ hb,rfl⟩,?_⟩
       rw [gGet_val]
       exact k _ hz _ H3 ((s1.trans s2).trans s3) ⟨((I.same s1).same s2).same s3,gGet_or ((hv.same s2).same s3) a3⟩
     · exact hz.elim
   · exact hx.elim⟩
noncomputable def fDixV (fa fb:FE):FP:=fun ρ Q=>fa ρ fun x=>fb ρ fun y=>match dtOf x,y with
 | some (ks,ts),.kt k=>∃ t,gGet ks ts k=some t∧Q (.vw t)
 | _,_=>False
theorem vp_dixV (hu:X.A.units+1 < cLine) (ha:VR X Z a fa) (hb:VE X Z b fb) (hs:NoSl b:=by intro _ _; rfl):VP X Z (.Subscript a b pos) (fDixV fa fb):=.mk fun tm=>PE.weak (pe_dget hu (ha tm) (hb tm) hs) fun σ H Q ⟨ρ,O,q,I,hf,k⟩ =>
 ⟨ρ,O,_,I,hf,fun x hx v H1 s1 a1=>⟨ρ,O,_,I.same s1,hx,fun y hy w H2 s2 a2=>by
   split at hy
   · rename_i ks ts kk ed
     obtain ⟨t,e1,hq⟩:=hy
     obtain ⟨l,vs,rfl,hl,hd,hv⟩:=dtOf_at (a1.same s2) ed
     obtain ⟨u,e2,e3⟩:=(gGet_at hv).1 t e1
     simp only [At] at a2
     obtain ⟨b,rfl,hb,_⟩:=a2
     exact ⟨l,u,rfl,.inr ⟨_,kk,b,.inl hd,rfl,hb,by rw [gGet_val,e2]⟩,k _ hq _ H2 (s1.trans s2) ⟨(I.same s1).same s2,e3⟩⟩
   · exact hy.elim⟩⟩
end
noncomputable def spG (K:PySem.W.Frag) (C:Addr) (G:T→S2→(S2→T→Prop)→Prop):Sp:=fun vs H Q _=>∃ (M:MG) (s:S2) (l:T) (v0:V) (q:S2→T→Prop),M.C=C∧vs=[v0,.ref M.a]∧At K H M.Ox l v0∧SD K { M with H0:=H } s H∧G l s q ∧
 ∀ s' t,q s' t→∀ v H',SD K { M with H0:=H } s' H'→At K H' M.Ox t v→Q v H'
section
variable {P:Program} {w:World} {K:PySem.W.Frag} {mg:Str→Option Value} {base:Heap}
theorem fnG {x qual:Str} {st:Stmt} {f C:Addr} {fd:FuncData} {N ps:List Str} {k:Nat} {G:T→S2→(S2→T→Prop)→Prop} (F:Fun K x qual st f fd) (S:FnScope N ps (defScope st)) (hn:2=ps.length) (hN:2≤N.length)
  (hbody:∀ (cdv:Value) (A:Around) (outer:List Env) (s:Shared) (H:Hp) (E:XK) (M:MG),M.C=C→Room k (A.deeper (envOfC qual (defScope st) s.heap.objs.size f cdv))→∀ l s0 q,G l s0 q →
    ∃ g,GSs (cxOf CX0 P w K mg base N qual (defScope st) f cdv A outer s H E).nox M (defBody st) g∧g { nx:=fun _ _=>False,rt:=q } (some (l,false) :: some (.ob M.a,false) :: List.replicate (N.length - 2) none) s0) :
  FnOk P w K mg base CX0 (k+1) f fd ps (spG K C G):=by
 refine F.ok S (fun vs H Q E h=>?_) (fun cdv A outer s H vs Q E hr h=>?_)
 · obtain ⟨M,s,l,v0,q,_,rfl,_⟩:=h
   exact hn
 · obtain ⟨M,s0,l,v0,q,hC,rfl,a0,sd,hG,kk⟩:=h
   obtain ⟨g,hg,hq⟩:=hbody cdv A outer s H E { M with H0:=H } hC hr l s0 q hG
   refine ⟨_,hg.h [],_,s0,_,⟨⟨List.replicate N.length none,roots_none _,?_⟩,sd⟩,hq,⟨fun _ _ _ _ _ z=>z.elim,fun s' H' t v sd' a z=>kk s' t z v H' sd' a,fun _ _ _ _ _ z=>z.elim,fun _ _ _ _ _ z=>z.elim⟩⟩
   have:=env_views (K:=K) (N:=N) (H:=H) (Ox:=M.Ox) (ts:=[l,.ob M.a]) (vs:=[v0,.ref M.a]) (by simpa using hN) (fun b hb=>by obtain ⟨u,e,_⟩:=sd.here b hb; rw [e]; simp) (AtL.cons a0 (AtL.cons (by simp only [At]) AtL.nil))
   exact this
end
end VT
namespace TS
open PySem PyProof.Rows
noncomputable def Cmp (prog:Program) (w:World) (A:Around) (E:Value→Shared→Prop) (s:Shared) (kd:SortKind) (a₀:Array Keyed):Prop :=
 ∀ p∈a₀.toList,∀ q∈a₀.toList,∀ Q:Bool→Shared→Prop,(∀ b,Q b s)→wpAny (model prog w) A (keyLt' kd p.1 q.1) Q E s
structure SB (kd:SortKind) (a₀:Array Keyed) (st:SortSt):Prop where
 pm:(arrOf st).Perm a₀
 kn:kindOf st=kd
 fl:failedOf st=none
 pe:pendingOf st = #[]
section
variable {prog:Program} {w:World} {A:Around} {E:Value→Shared→Prop} {s:Shared} {a₀:Array Keyed} {kd:SortKind} {st:SortSt}
theorem SB.sz (h:SB kd a₀ st):(arrOf st).size=a₀.size:=h.pm.size_eq
theorem SB.put (h:SB kd a₀ st) {xs:Array Keyed} (hp:xs.Perm (arrOf st)):SB kd a₀ (setArr st xs):=⟨hp.trans h.pm,h.kn,h.fl,h.pe⟩
theorem SB.get (h:SB kd a₀ st) {i:Nat} (hi:i < a₀.size):∃ p∈a₀.toList,(arrOf st)[i]?=some p:=by
 have hi':i < (arrOf st).size:=by rw [h.sz]; exact hi
 refine ⟨(arrOf st)[i],(Array.perm_iff_toList_perm.mp h.pm).mem_iff.mp (by simp),getElem?_pos _ i hi'⟩
theorem ltP {i j:Nat} {Q:Option Bool→SortSt→Prop} (hC:Cmp prog w A (fun _ _=>False) s kd a₀) (hB:SB kd a₀ st) (hi:i < a₀.size) (hj:j < a₀.size) (h:∀ b,Q (some b) st) :
  wpS (model prog w) A E s (ltAt' i j) Q st:=by
 obtain ⟨p,mp,ep⟩:=hB.get hi
 obtain ⟨q,mq,eq⟩:=hB.get hj
 rw [ltAt'_eq]
 refine wpS_bind (wpS_get ?_)
 show wpS _ _ _ _ (elem' (arrOf st) i >>= fun x=>elem' (arrOf st) j >>= fun y=>lt' x y) Q st
 rw [elem'_eq,elem'_eq,ep,eq]
 refine wpS_bind (wpS_pure (wpS_bind (wpS_pure ?_)))
 rw [lt'_eq]
 refine wpS_bind (wpS_get ?_)
 rw [hB.kn]
 have hk:=hC p mp q mq (fun b s'=>s'=s∧Q (some b) st) (fun b=>⟨rfl,h b⟩)
 refine wpS_bind (wpS_lift (wpAny_attempt (wpAny_mono hk (fun b s' z=>⟨z.1,wpS_pure z.2⟩) fun _ _ z=>z.elim)))
theorem ascP {a nrem:Nat} {Q:AscSt→SortSt→Prop} (hC:Cmp prog w A (fun _ _=>False) s kd a₀) (hB:SB kd a₀ st) (hn:nrem≤a₀.size) (ha:1≤a) (han:a≤nrem) (h:∀ n,a≤n→n≤nrem→Q (none,n) st) :
  wpS (model prog w) A E s (ascLoop a nrem) Q st:=by
 unfold ascLoop
 refine wpS_forRange (I:=fun x c st'=>st'=st∧c=(none,x)) ?_ ?_ ⟨rfl,rfl⟩
 · rintro x c st' h1 h2 ⟨rfl,rfl⟩
   dsimp only
   refine wpS_bind (ltP hC hB (by omega) (by omega) fun b=>?_)
   cases b with
   | true=>exact wpS_pure (h x h1 (by omega))
   | false=>exact wpS_pure ⟨rfl,rfl⟩
 · rintro c st' ⟨rfl,rfl⟩
   rw [Nat.max_eq_right han]
   exact h nrem han (Nat.le_refl _)
theorem tailP {n nrem:Nat} {Q:Option Nat→SortSt→Prop} (hC:Cmp prog w A (fun _ _=>False) s kd a₀) (hB:SB kd a₀ st) (hn:nrem≤a₀.size) (h1:1≤n) (hnn:n≤nrem) (h:∀ m st',SB kd a₀ st'→1≤m→m≤nrem→Q (some m) st') :
  wpS (model prog w) A E s (tail3 n nrem) Q st:=by
 unfold tail3
 refine wpS_bind (wpS_reverse ?_)
 have hB':=hB.put (mirror_perm (arrOf st) 0 n ((n - 0) / 2))
 exact wpS_bind (ascP hC hB' hn h1 hnn fun m h2 h3=>wpS_pure (h m _ hB' (by omega) h3))
theorem descP {n nrem:Nat} {Q:DescSt→SortSt→Prop} (hC:Cmp prog w A (fun _ _=>False) s kd a₀) (hB:SB kd a₀ st) (hn:nrem≤a₀.size) (h1:1≤n) (hnn:n≤nrem) (h:∀ m e st',SB kd a₀ st'→n≤m→m≤nrem→Q (none,m,e) st') :
  wpS (model prog w) A E s (descLoop n nrem) Q st:=by
 unfold descLoop
 refine wpS_forRange (I:=fun x c st'=>∃ e,c=(none,x,e)∧SB kd a₀ st') ?_ ?_ ⟨0,rfl,hB⟩
 · rintro x c st' h2 h3 ⟨e,rfl,hB'⟩
   dsimp only
   refine wpS_bind (ltP hC hB' (by omega) (by omega) fun b=>?_)
   cases b with
   | true =>
     simp only [↓reduceIte]
     split
     · exact wpS_bind (wpS_reverse (wpS_pure ⟨0,rfl,hB'.put (mirror_perm _ _ _ _)⟩))
     · exact wpS_pure ⟨0,rfl,hB'⟩
   | false =>
     simp only [Bool.false_eq_true,↓reduceIte]
     refine wpS_bind (ltP hC hB' (by omega) (by omega) fun b=>?_)
     cases b with
     | true=>exact wpS_pure (h x e st' hB' h2 (by omega))
     | false=>exact wpS_pure ⟨e+1,rfl,hB'⟩
 · rintro c st' ⟨e,rfl,hB'⟩
   rw [Nat.max_eq_right hnn]
   exact h nrem e st' hB' hnn (Nat.le_refl _)
theorem partP {n nrem:Nat} {Q:Option Nat→SortSt→Prop} (hC:Cmp prog w A (fun _ _=>False) s kd a₀) (hB:SB kd a₀ st) (hn:nrem≤a₀.size) (hnn:n+1≤nrem) (h:∀ m st',SB kd a₀ st'→1≤m→m≤nrem→Q (some m) st') :
  wpS (model prog w) A E s (descPart n nrem) Q st:=by
 unfold descPart
 refine wpS_bind (wpS_lift (wpAny_rule ⟨rfl,?_⟩))
 refine wpS_bind (descP hC hB hn (by omega) hnn fun m e st' hB' h2 h3=>?_)
 dsimp only
 split
 · exact wpS_bind (wpS_reverse (tailP hC (hB'.put (mirror_perm _ _ _ _)) hn (by omega) h3 h))
 · exact tailP hC hB' hn (by omega) h3 h
theorem countP {nrem:Nat} {Q:Option Nat→SortSt→Prop} (hC:Cmp prog w A (fun _ _=>False) s kd a₀) (hB:SB kd a₀ st) (hn:nrem≤a₀.size) (h1:1≤nrem) (h:∀ m st',SB kd a₀ st'→1≤m→m≤nrem→Q (some m) st') :
  wpS (model prog w) A E s (countRun' 0 nrem) Q st:=by
 rw [countRun0_eq]
 refine wpS_bind (ascP hC hB hn (Nat.le_refl _) h1 fun n h2 h3=>?_)
 dsimp only
 split
 · exact wpS_pure (h n st hB h2 h3)
 · rename_i hne
   have hlt:n+1≤nrem:=by
    have:n≠nrem:=fun z=>hne (by simp [z])
    omega
   split
   · refine wpS_bind (ltP hC hB (by omega) (by omega) fun b=>?_)
     cases b with
     | true=>exact wpS_pure (h n st hB h2 h3)
     | false=>exact wpS_bind (wpS_reverse (partP hC (hB.put (mirror_perm _ _ _ _)) hn hlt h))
   · exact partP hC hB hn hlt h
end
end TS
namespace TS
open PySem PyProof.Rows
section
variable {prog:Program} {w:World} {A:Around} {E:Value→Shared→Prop} {s:Shared}
theorem perm_snd {vs:List Value} {xs:Array Keyed} (hp:xs.Perm (pairsOf vs)):(xs.map (·.2)).toList.Perm vs:=by
 have h:=(Array.perm_iff_toList_perm.mp hp).map (fun p:Keyed=>p.2)
 rw [pairsOf_toList] at h
 rw [Array.toList_map]
 refine h.trans ?_
 have:∀ l:List Value,(l.zip l).map (fun p:Keyed=>p.2)=l:=fun l=>by
  induction l with
  | nil=>rfl
  | cons x l ih=>rw [List.zip_cons_cons,List.map_cons,ih]
 rw [this]
end
end TS
namespace TS
open PySem PyProof.Rows
noncomputable def CmpR (prog:Program) (w:World) (A:Around) (E:Value→Shared→Prop) (s:Shared) (kd:SortKind) (a₀:Array Keyed) (rk:Value→Nat):Prop :=
 ∀ p∈a₀.toList,∀ q∈a₀.toList,∀ Q:Bool→Shared→Prop,Q (decide (rk p.1 < rk q.1)) s→wpAny (model prog w) A (keyLt' kd p.1 q.1) Q E s
noncomputable def rA (rk:Value→Nat) (xs:Array Keyed) (i:Nat):Nat:=match xs[i]? with
 | some p=>rk p.1
 | none=>0
noncomputable def Inc (rk:Value→Nat) (xs:Array Keyed) (n:Nat):Prop:=∀ i j,i < j→j < n→rA rk xs i < rA rk xs j
noncomputable def Dec (rk:Value→Nat) (xs:Array Keyed) (n:Nat):Prop:=∀ i j,i < j→j < n→rA rk xs j < rA rk xs i
section
variable {rk:Value→Nat} {xs:Array Keyed}
theorem Inc.one:Inc rk xs 1:=fun i j h1 h2=>by omega
theorem Inc.next {n:Nat} (h:Inc rk xs n) (h1:1≤n) (h2:rA rk xs (n - 1) < rA rk xs n):Inc rk xs (n+1):=fun i j hi hj=>by
 by_cases e:j=n
 · subst e
   by_cases e2:i=j - 1
   · rw [e2]; exact h2
   · have:=h i (j - 1) (by omega) (by omega)
     omega
 · exact h i j hi (by omega)
theorem Dec.next {n:Nat} (h:Dec rk xs n) (h1:1≤n) (h2:rA rk xs n < rA rk xs (n - 1)):Dec rk xs (n+1):=fun i j hi hj=>by
 by_cases e:j=n
 · subst e
   by_cases e2:i=j - 1
   · rw [e2]; exact h2
   · have:=h i (j - 1) (by omega) (by omega)
     omega
 · exact h i j hi (by omega)
theorem rA_mirror {n:Nat} (hn:n≤xs.size) (k:Nat):rA rk (mirror xs 0 n ((n - 0) / 2)) k=if k < n then rA rk xs (n - 1 - k) else rA rk xs k:=by
 have e:=getElem?_mirror_all (i:=0) hn k
 unfold rA
 rw [e]
 by_cases h:k < n
 · rw [if_pos ⟨Nat.zero_le _,h⟩,if_pos h,Nat.zero_add]
 · rw [if_neg (fun z=>h z.2),if_neg h]
theorem Dec.turn {n:Nat} (hn:n≤xs.size) (h:Dec rk xs n):Inc rk (mirror xs 0 n ((n - 0) / 2)) n:=fun i j hi hj=>by
 rw [rA_mirror hn,rA_mirror hn,if_pos (by omega),if_pos hj]
 exact h _ _ (by omega) (by omega)
theorem rA_bubble {src l:Nat} (hs:src < xs.size) (hl:l≤src) (k:Nat):rA rk (bubble xs src (src - l)) k=if k=l then rA rk xs src else if l < k∧k≤src then rA rk xs (k - 1) else rA rk xs k:=by
 have e:=getElem?_bubble hs (src - l) (by omega) k
 have e0:src - (src - l)=l:=by omega
 rw [e0] at e
 unfold rA
 rw [e]
 by_cases h1:k=l
 · rw [if_pos h1,if_pos h1]
 · rw [if_neg h1,if_neg h1]
   by_cases h2:l < k∧k≤src
   · rw [if_pos h2,if_pos h2]
   · rw [if_neg h2,if_neg h2]
theorem Inc.place {k l:Nat} (hk:k < xs.size) (hl:l≤k) (h:Inc rk xs k) (h1:∀ i,i < l→rA rk xs i < rA rk xs k) (h2:∀ i,l≤i→i < k→rA rk xs k < rA rk xs i):Inc rk (bubble xs k (k - l)) (k+1):=fun i j hi hj=>by
 rw [rA_bubble hk hl,rA_bubble hk hl]
 by_cases e1:i=l
 · rw [if_pos e1,if_neg (by omega),if_pos (by omega)]
   exact h2 _ (by omega) (by omega)
 · rw [if_neg e1]
   by_cases e2:l < i∧i≤k
   · rw [if_pos e2,if_neg (by omega),if_pos (by omega)]
     exact h _ _ (by omega) (by omega)
   · rw [if_neg e2]
     by_cases e3:j=l
     · rw [if_pos e3]; exact h1 i (by omega)
     · rw [if_neg e3]
       by_cases e4:l < j∧j≤k
       · rw [if_pos e4]
         exact h _ _ (by omega) (by omega)
       · rw [if_neg e4]
         exact h _ _ hi (by omega)
end
structure SR (kd:SortKind) (a₀:Array Keyed) (rk:Value→Nat) (st:SortSt):Prop extends SB kd a₀ st where
 ap:(a₀.toList.map fun p=>rk p.1).Nodup
section
variable {prog:Program} {w:World} {A:Around} {E:Value→Shared→Prop} {s:Shared} {a₀:Array Keyed} {kd:SortKind} {st:SortSt} {rk:Value→Nat}
theorem SR.put' (h:SR kd a₀ rk st) {xs:Array Keyed} (hp:xs.Perm (arrOf st)):SR kd a₀ rk (setArr st xs):=⟨h.toSB.put hp,h.ap⟩
theorem SR.rk_get (h:SR kd a₀ rk st) {i:Nat} (hi:i < a₀.size):∃ p∈a₀.toList,(arrOf st)[i]?=some p∧rA rk (arrOf st) i=rk p.1:=by
 obtain ⟨p,h1,h2⟩:=h.toSB.get hi
 exact ⟨p,h1,h2,by unfold rA; rw [h2]⟩
theorem SR.apart (h:SR kd a₀ rk st) {i j:Nat} (hi:i < a₀.size) (hj:j < a₀.size) (ne:i≠j):rA rk (arrOf st) i≠rA rk (arrOf st) j:=by
 have nd:((arrOf st).toList.map fun p=>rk p.1).Nodup:=((Array.perm_iff_toList_perm.mp h.pm).map _).nodup_iff.mpr h.ap
 have hs:=h.toSB.sz
 intro e
 have gi:((arrOf st).toList.map fun p=>rk p.1)[i]?=some (rA rk (arrOf st) i):=by
  obtain ⟨p,_,h2,h3⟩:=h.rk_get hi
  rw [List.getElem?_map,Array.getElem?_toList,h2,h3]; rfl
 have gj:((arrOf st).toList.map fun p=>rk p.1)[j]?=some (rA rk (arrOf st) j):=by
  obtain ⟨p,_,h2,h3⟩:=h.rk_get hj
  rw [List.getElem?_map,Array.getElem?_toList,h2,h3]; rfl
 rw [e,← gj] at gi
 exact ne ((List.getElem?_inj (by rw [List.length_map,Array.length_toList,hs]; exact hi) nd).mp gi)
theorem ltR {i j:Nat} {Q:Option Bool→SortSt→Prop} (hC:CmpR prog w A (fun _ _=>False) s kd a₀ rk) (hB:SR kd a₀ rk st) (hi:i < a₀.size) (hj:j < a₀.size) (h:Q (some (decide (rA rk (arrOf st) i < rA rk (arrOf st) j))) st) :
  wpS (model prog w) A E s (ltAt' i j) Q st:=by
 obtain ⟨p,mp,ep,rp⟩:=hB.rk_get hi
 obtain ⟨q,mq,eq,rq⟩:=hB.rk_get hj
 rw [ltAt'_eq]
 refine wpS_bind (wpS_get ?_)
 show wpS _ _ _ _ (elem' (arrOf st) i >>= fun x=>elem' (arrOf st) j >>= fun y=>lt' x y) Q st
 rw [elem'_eq,elem'_eq,ep,eq]
 refine wpS_bind (wpS_pure (wpS_bind (wpS_pure ?_)))
 rw [lt'_eq]
 refine wpS_bind (wpS_get ?_)
 rw [hB.kn]
 rw [rp,rq] at h
 have hk:=hC p mp q mq (fun b s'=>s'=s∧Q (some b) st) ⟨rfl,h⟩
 exact wpS_bind (wpS_lift (wpAny_attempt (wpAny_mono hk (fun b s' z=>⟨z.1,wpS_pure z.2⟩) fun _ _ z=>z.elim)))
theorem ascR {a nrem:Nat} {Q:AscSt→SortSt→Prop} (hC:CmpR prog w A (fun _ _=>False) s kd a₀ rk) (hB:SR kd a₀ rk st) (hn:nrem≤a₀.size) (ha:1≤a) (han:a≤nrem) (hi:Inc rk (arrOf st) a)
  (h:∀ n,a≤n→n≤nrem→Inc rk (arrOf st) n→(n < nrem→rA rk (arrOf st) n < rA rk (arrOf st) (n - 1))→Q (none,n) st):wpS (model prog w) A E s (ascLoop a nrem) Q st:=by
 unfold ascLoop
 refine wpS_forRange (I:=fun x c st'=>st'=st∧c=(none,x)∧Inc rk (arrOf st) x) ?_ ?_ ⟨rfl,rfl,hi⟩
 · rintro x c st' h1 h2 ⟨rfl,rfl,hx⟩
   dsimp only
   refine wpS_bind (ltR hC hB (by omega) (by omega) ?_)
   by_cases e:rA rk (arrOf st') x < rA rk (arrOf st') (x - 1)
   · rw [decide_eq_true e]
     exact wpS_pure (h x h1 (by omega) hx fun _=>e)
   · rw [decide_eq_false e]
     have ne:=hB.apart (i:=x) (j:=x - 1) (by omega) (by omega) (by omega)
     exact wpS_pure ⟨rfl,rfl,hx.next (by omega) (by omega)⟩
 · rintro c st' ⟨rfl,rfl,hx⟩
   rw [Nat.max_eq_right han] at hx ⊢
   exact h nrem han (Nat.le_refl _) hx fun z=>by omega
theorem tailR {n nrem:Nat} {Q:Option Nat→SortSt→Prop} (hC:CmpR prog w A (fun _ _=>False) s kd a₀ rk) (hB:SR kd a₀ rk st) (hn:nrem≤a₀.size) (h1:1≤n) (hnn:n≤nrem) (hd:Dec rk (arrOf st) n)
  (h:∀ m st',SR kd a₀ rk st'→1≤m→m≤nrem→Inc rk (arrOf st') m→Q (some m) st'):wpS (model prog w) A E s (tail3 n nrem) Q st:=by
 unfold tail3
 refine wpS_bind (wpS_reverse ?_)
 have hB':=hB.put' (mirror_perm (arrOf st) 0 n ((n - 0) / 2))
 have hi:Inc rk (arrOf (setArr st (mirror (arrOf st) 0 n ((n - 0) / 2)))) n:=hd.turn (by rw [hB.toSB.sz]; omega)
 exact wpS_bind (ascR hC hB' hn h1 hnn hi fun m h2 h3 h4 _=>wpS_pure (h m _ hB' (by omega) h3 h4))
theorem descR {n nrem:Nat} {Q:DescSt→SortSt→Prop} (hC:CmpR prog w A (fun _ _=>False) s kd a₀ rk) (hB:SR kd a₀ rk st) (hn:nrem≤a₀.size) (h1:1≤n) (hnn:n≤nrem) (hd:Dec rk (arrOf st) n)
  (h:∀ m,n≤m→m≤nrem→Dec rk (arrOf st) m→Q (none,m,0) st):wpS (model prog w) A E s (descLoop n nrem) Q st:=by
 unfold descLoop
 refine wpS_forRange (I:=fun x c st'=>c=(none,x,0)∧st'=st∧Dec rk (arrOf st) x) ?_ ?_ ⟨rfl,rfl,hd⟩
 · rintro x c st' h2 h3 ⟨rfl,rfl,hx⟩
   dsimp only
   refine wpS_bind (ltR hC hB (by omega) (by omega) ?_)
   have ne:=hB.apart (i:=x) (j:=x - 1) (by omega) (by omega) (by omega)
   by_cases e:rA rk (arrOf st') x < rA rk (arrOf st') (x - 1)
   · rw [decide_eq_true e]
     simp only [↓reduceIte]
     exact wpS_pure ⟨rfl,rfl,hx.next (by omega) e⟩
   · rw [decide_eq_false e]
     simp only [Bool.false_eq_true,↓reduceIte]
     refine wpS_bind (ltR hC hB (by omega) (by omega) ?_)
     rw [decide_eq_true (by omega)]
     exact wpS_pure (h x h2 (by omega) hx)
 · rintro c st' ⟨rfl,rfl,hx⟩
   rw [Nat.max_eq_right hnn] at hx ⊢
   exact h nrem hnn (Nat.le_refl _) hx
theorem partR {n nrem:Nat} {Q:Option Nat→SortSt→Prop} (hC:CmpR prog w A (fun _ _=>False) s kd a₀ rk) (hB:SR kd a₀ rk st) (hn:nrem≤a₀.size) (hnn:n+1≤nrem) (hd:Dec rk (arrOf st) (n+1))
  (h:∀ m st',SR kd a₀ rk st'→1≤m→m≤nrem→Inc rk (arrOf st') m→Q (some m) st'):wpS (model prog w) A E s (descPart n nrem) Q st:=by
 unfold descPart
 refine wpS_bind (wpS_lift (wpAny_rule ⟨rfl,?_⟩))
 refine wpS_bind (descR hC hB hn (by omega) hnn hd fun m h2 h3 h4=>?_)
 dsimp only
 rw [if_neg (by omega)]
 exact tailR hC hB hn (by omega) h3 h4 h
theorem countR {nrem:Nat} {Q:Option Nat→SortSt→Prop} (hC:CmpR prog w A (fun _ _=>False) s kd a₀ rk) (hB:SR kd a₀ rk st) (hn:nrem≤a₀.size) (h1:1≤nrem)
  (h:∀ m st',SR kd a₀ rk st'→1≤m→m≤nrem→Inc rk (arrOf st') m→Q (some m) st'):wpS (model prog w) A E s (countRun' 0 nrem) Q st:=by
 rw [countRun0_eq]
 refine wpS_bind (ascR hC hB hn (Nat.le_refl _) h1 Inc.one fun n h2 h3 h4 h5=>?_)
 dsimp only
 split
 · exact wpS_pure (h n st hB h2 h3 h4)
 · rename_i hne
   have hlt:n < nrem:=by
    have:n≠nrem:=fun z=>hne (by simp [z])
    omega
   split
   · refine wpS_bind (ltR hC hB (by omega) (by omega) ?_)
     rw [decide_eq_true (h4 0 (n - 1) (by omega) (by omega))]
     exact wpS_pure (h n st hB h2 h3 h4)
   · have e1:n=1:=by omega
     subst e1
     refine partR hC hB hn (by omega) (fun i j hi hj=>?_) h
     have:i=0:=by omega
     have:j=1:=by omega
     subst i j
     exact h5 hlt
theorem binR {n ok:Nat} {Q:Bool→SortSt→Prop} (hC:CmpR prog w A (fun _ _=>False) s kd a₀ rk) (hB:SR kd a₀ rk st) (hn:n≤a₀.size) (h1:1≤ok) (hok:ok≤n) (hi:Inc rk (arrOf st) ok)
  (h:∀ st',SR kd a₀ rk st'→Inc rk (arrOf st') n→Q true st'):wpS (model prog w) A E s (binarySort' 0 n ok) Q st:=by
 rw [binarySort'_eq]
 refine wpS_bind (wpS_forRange (I:=fun k c st'=>c.fst=none∧SR kd a₀ rk st'∧Inc rk (arrOf st') k) ?_ ?_ ⟨rfl,hB,by rw [Nat.max_eq_left h1]; exact hi⟩)
 · rintro k c st' h2 h3 ⟨hc,hB',hk⟩
   dsimp only
   have hk1:1≤k:=by omega
   have hsz:=hB'.toSB.sz
   have fin:∀ l,l≤k→(∀ i,i < l→rA rk (arrOf st') i < rA rk (arrOf st') k)→(∀ i,l≤i→i < k→rA rk (arrOf st') k < rA rk (arrOf st') i) →
     wpS (model prog w) A E s (moveDown' (0+k) (0+l) >>= fun _=>pure (ForInStep.yield ((none,()):Option Bool×Unit))) (fun r st''=>match r with | .done c'=>False | .yield c'=>c'.fst=none∧SR kd a₀ rk st''∧Inc rk (arrOf st'') (k+1)) st':=fun l hl a b=>by
    rw [Nat.zero_add,Nat.zero_add,moveDown'_eq]
    refine wpS_bind (wpS_modify (wpS_pure ⟨rfl,hB'.put' (bubble_perm _ _ _),?_⟩))
    exact hk.place (by omega) hl a b
   refine wpS_bind (wpS_forRange (I:=fun x (c:Option Bool×Nat×Nat) st''=>st''=st'∧c.1=none∧c.2.1≤c.2.2∧c.2.2≤k∧c.2.2 - c.2.1≤k - x∧(∀ i,i < c.2.1→rA rk (arrOf st') i < rA rk (arrOf st') k)∧∀ i,c.2.2≤i→i < k→rA rk (arrOf st') k < rA rk (arrOf st') i) (Q:=fun c st''=>wpS (model prog w) A E s _ _ st'') ?_ ?_ ⟨rfl,rfl,Nat.zero_le _,Nat.le_refl _,Nat.le_refl _,fun i (hi:i < 0)=>absurd hi (Nat.not_lt_zero i),fun i (h4:k≤i) h5=>absurd h5 (by omega)⟩)
   · rintro x ⟨c1,l,r⟩ st'' h4 h5 ⟨rfl,rfl,h6,h7,h8,h9,h10⟩
     dsimp only at h6 h7 h8 h9 h10 ⊢
     split
     · rename_i hge
       have:l=r:=by omega
       subst this
       refine wpS_pure ?_
       show wpS _ _ _ _ (moveDown' (0+k) (0+l) >>= fun _=>pure (ForInStep.yield (none,()))) _ _
       refine wpS_mono (fin l h7 h9 h10) fun r st3 hr=>?_
       cases r with
       | done c'=>exact hr.elim
       | yield c'=>exact hr
     · rename_i hlr
       refine wpS_bind (ltR hC hB' (by omega) (by omega) ?_)
       rw [Nat.zero_add,Nat.zero_add]
       have ne:=hB'.apart (i:=k) (j:=(l+r) / 2) (by omega) (by omega) (by omega)
       by_cases e:rA rk (arrOf st'') k < rA rk (arrOf st'') ((l+r) / 2)
       · rw [decide_eq_true e]
         refine wpS_pure ⟨rfl,rfl,by show l≤(l+r) / 2; omega,by show (l+r) / 2≤k; omega,by show (l+r) / 2 - l≤k - (x+1); omega,h9,fun i hi1 hi2=>?_⟩
         have hi1:(l+r) / 2≤i:=hi1
         by_cases e2:i=(l+r) / 2
         · rw [e2]; exact e
         · have:=hk _ i (show (l+r) / 2 < i by omega) hi2
           omega
       · rw [decide_eq_false e]
         refine wpS_pure ⟨rfl,rfl,by show (l+r) / 2+1≤r; omega,h7,by show r - ((l+r) / 2+1)≤k - (x+1); omega,fun i hi1=>?_,h10⟩
         have hi1:i < (l+r) / 2+1:=hi1
         by_cases e2:i=(l+r) / 2
         · rw [e2]; omega
         · have:=hk i _ (show i < (l+r) / 2 by omega) (by omega)
           omega
   · rintro ⟨c1,l,r⟩ st'' ⟨rfl,rfl,h6,h7,h8,h9,h10⟩
     dsimp only at h6 h7 h8 h9 h10
     have:max 0 k=k:=Nat.max_eq_right (Nat.zero_le _)
     have:l=r:=by omega
     subst this
     show wpS _ _ _ _ (moveDown' (0+k) (0+l) >>= fun _=>pure (ForInStep.yield (none,()))) _ _
     refine wpS_mono (fin l h7 h9 h10) fun r st3 hr=>?_
     cases r with
     | done c'=>exact hr.elim
     | yield c'=>exact hr
 · rintro ⟨c1,c2⟩ st' ⟨rfl,hB',hk⟩
   have:max (max ok 1) n=n:=by omega
   rw [this] at hk
   exact wpS_pure (h st' hB' hk)
theorem runsR {Q:Unit→SortSt→Prop} (hC:CmpR prog w A (fun _ _=>False) s kd a₀ rk) (hB:SR kd a₀ rk st) (h2:2≤a₀.size) (h64:a₀.size < 64) (h:∀ st',(arrOf st').Perm a₀→Inc rk (arrOf st') a₀.size→failedOf st'=none→Q () st') :
  wpS (model prog w) A E s sortRuns' Q st:=by
 rw [sortRuns'_eq]
 refine wpS_bind (wpS_get ?_)
 dsimp only
 rw [hB.toSB.sz]
 obtain ⟨m,hm⟩:∃ m,a₀.size=m+1:=⟨a₀.size - 1,by omega⟩
 have hmin:minRun' a₀.size a₀.size 0=a₀.size:=by
  conv=>lhs; arg 1; rw [hm]
  rw [minRun'_succ,if_pos h64,Nat.add_zero]
 rw [hmin]
 have lst:∀ st',(arrOf st').Perm a₀∧Inc rk (arrOf st') a₀.size→failedOf st'=none→pendingOf st' = #[(0,a₀.size,0)]→∀ (f:Nat→Option Unit×Unit→StateT SortSt Sem (ForInStep (Option Unit×Unit))) (k:Option Unit×Unit→StateT SortSt Sem Unit),(∀ i,∃ g:SortSt→StateT SortSt Sem (ForInStep (Option Unit×Unit)),f i (none,())=(do
    let q ← get
    if (pendingOf q).size≤1 then pure (ForInStep.done (none,())) else g q))→k (none,())=pure () →
   wpS (model prog w) A E s (forIn [:a₀.size] ((none,()):Option Unit×Unit) f >>= k) Q st':=fun st' p1 p2 p3 f k hf hk=>by
  refine wpS_bind (wpS_forRange (I:=fun _ c st''=>c=(none,())∧st''=st') ?_ ?_ ⟨rfl,rfl⟩)
  · rintro i c st'' _ _ ⟨rfl,rfl⟩
    obtain ⟨g,hg⟩:=hf i
    rw [hg]
    refine wpS_bind (wpS_get ?_)
    rw [p3]
    rw [if_pos (by simp)]
    refine wpS_pure ?_
    show wpS _ _ _ _ (k (none,())) _ _
    rw [hk]
    exact wpS_pure (h _ p1.1 p1.2 p2)
  · rintro c st'' ⟨rfl,rfl⟩
    rw [hk]
    exact wpS_pure (h _ p1.1 p1.2 p2)
 refine wpS_bind (wpS_forRange (I:=fun i (c:Option Unit×Nat) st'=>(i=0∧c=(none,0)∧SR kd a₀ rk st')∨(1≤i∧c=(none,a₀.size)∧((arrOf st').Perm a₀∧Inc rk (arrOf st') a₀.size)∧failedOf st'=none∧pendingOf st' = #[(0,a₀.size,0)])) ?_ ?_ (.inl ⟨rfl,rfl,hB⟩))
 · rintro i c st' _ hi (⟨rfl,rfl,hB'⟩ | ⟨h1,rfl,p1,p2,p3⟩)
   · have h0:¬ 0 ≥ a₀.size:=by omega
     dsimp only
     rw [if_neg h0,Nat.sub_zero]
     have push:∀ st'',SR kd a₀ rk st''→Inc rk (arrOf st'') a₀.size→wpS (model prog w) A E s (modify (fun q:SortSt=>setPending q ((pendingOf q).push (0,a₀.size,0))) >>= fun _=>pure (ForInStep.yield ((none,0+a₀.size):Option Unit×Nat))) (fun r st3=>match r with
       | .done c'=>False
       | .yield c'=>c'=(none,a₀.size)∧((arrOf st3).Perm a₀∧Inc rk (arrOf st3) a₀.size)∧failedOf st3=none∧pendingOf st3 = #[(0,a₀.size,0)]) st'':=fun st'' hb hinc=>by
      refine wpS_bind (wpS_modify (wpS_pure ⟨by rw [Nat.zero_add],⟨hb.pm,hinc⟩,hb.fl,?_⟩))
      show (pendingOf st'').push (0,a₀.size,0)=_
      rw [hb.pe]; rfl
     refine wpS_bind (countR hC hB' (Nat.le_refl _) (by omega) fun m' st'' hb h3 h4 hinc=>?_)
     dsimp only
     split
     · rw [Nat.min_self]
       refine wpS_bind (wpS_lift (wpAny_rule ⟨rfl,?_⟩))
       refine wpS_bind (binR hC hb (Nat.le_refl _) h3 h4 hinc fun st3 hb3 hinc3=>?_)
       rw [if_neg (by simp)]
       refine wpS_bind (wpS_get ?_)
       rw [hb3.pe]
       refine wpS_mono (push st3 hb3 hinc3) fun r st4 hr=>?_
       cases r with
       | done c'=>exact hr.elim
       | yield c'=>exact .inr ⟨by omega,hr⟩
     · rename_i hge
       obtain rfl:m'=a₀.size:=by omega
       refine wpS_bind (wpS_get ?_)
       rw [hb.pe]
       refine wpS_mono (push st'' hb hinc) fun r st4 hr=>?_
       cases r with
       | done c'=>exact hr.elim
       | yield c'=>exact .inr ⟨by omega,hr⟩
   · dsimp only
     rw [if_pos (Nat.le_refl _)]
     refine wpS_pure ?_
     exact lst st' p1 p2 p3 _ _ (fun i=>⟨_,rfl⟩) rfl
 · rintro c st' (⟨h1,_⟩ | ⟨h1,rfl,p1,p2,p3⟩)
   · exfalso
     have:max 0 a₀.size=a₀.size:=Nat.max_eq_right (Nat.zero_le _)
     omega
   · exact lst st' p1 p2 p3 _ _ (fun i=>⟨_,rfl⟩) rfl
end
end TS
namespace TS
open PySem PyProof.Rows
section
variable {prog:Program} {w:World} {A:Around} {E:Value→Shared→Prop} {s:Shared}
theorem keyLt_tuples (b:Bool) (x y:Value):keyLt' (tuples' b) x y=(do
 let xs ← Builtin.List.listItems x
 let ys ← Builtin.List.listItems y
 for ((p,q),i) in (xs.toList.zip ys.toList).zipIdx do
  if !(← eqBool p q) then return ← oneLt' (b && i == 0) p q
 return decide (xs.size < ys.size)):=rfl
noncomputable def TupAt (h:Heap) (v:Value) (its:Array Value):Prop:=∃ a o n,v = .ref a∧h.get? a=some o∧o.cls = .type "tuple"∧o.data = .seq its n
theorem mapM_wp {α β:Type} {f:α→Sem β} {g:α→β}:∀ (l:List α) (Q:List β→Shared→Prop),(∀ v∈l,∀ R:β→Shared→Prop,R (g v) s→wpAny (model prog w) A (f v) R E s)→Q (l.map g) s→wpAny (model prog w) A (l.mapM f) Q E s
 | [],Q,_,hq=>by rw [List.mapM_nil]; exact wpAny_pure hq
 | v :: l,Q,h,hq=>by
   rw [List.mapM_cons]
   refine wpAny_bind (h v (by simp) _ ?_)
   refine wpAny_bind (mapM_wp l _ (fun v hv=>h v (List.mem_cons_of_mem _ hv)) ?_)
   exact wpAny_pure hq
theorem first_eq (v:Value):firstOfTuple' v=(do
 if (← typeOf v) != .type "tuple" then return none
 return (← Builtin.List.listItems v)[0]?):=rfl
theorem kind_tup {vs:List Value} (hne:vs≠[]) (ht:∀ v∈vs,∃ its i t,TupAt s.heap v its∧its[0]?=some (.int i t)) {Q:SortKind→Shared→Prop} (hq:Q (tuples' true) s) :
  wpAny (model prog w) A (keyKind' vs.toArray) Q E s:=by
 have pick:∃ g:Value→Option Value,∀ v∈vs,∃ i t,g v=some (.int i t)∧∀ R:Option Value→Shared→Prop,R (g v) s→wpAny (model prog w) A (firstOfTuple' v) R E s:=by
  refine ⟨fun v=>open Classical in if h:∃ x:Value,(∃ i t,x = .int i t)∧∀ R:Option Value→Shared→Prop,R (some x) s→wpAny (model prog w) A (firstOfTuple' v) R E s then some h.choose else none,fun v hv=>?_⟩
  obtain ⟨its,i,t,⟨a,o,n,rfl,h1,h2,h3⟩,h4⟩:=ht v hv
  have hex:∃ x:Value,(∃ i t,x = .int i t)∧∀ R:Option Value→Shared→Prop,R (some x) s→wpAny (model prog w) A (firstOfTuple' (.ref a)) R E s:=by
   refine ⟨.int i t,⟨i,t,rfl⟩,fun R hR=>?_⟩
   rw [first_eq]
   refine wpAny_bind (wpAny_typeOf (T:="tuple") ⟨o,h1,h2⟩ ?_)
   simp only [bne_self_eq_false,Bool.false_eq_true,if_false]
   refine wpAny_bind (listItems_at h1 h3 (wpAny_pure ?_))
   rw [h4]; exact hR
  dsimp only
  rw [dif_pos hex]
  obtain ⟨⟨i',t',e⟩,hR⟩:=hex.choose_spec
  exact ⟨i',t',by rw [e],hR⟩
 obtain ⟨g,hg⟩:=pick
 rw [keyKind'_eq,List.mapM_toArray]
 refine wpAny_bind ?_
 rw [map_eq_pure_bind]
 refine wpAny_bind (mapM_wp (g:=g) vs _ (fun v hv R hR=>(hg v hv).choose_spec.choose_spec.2 R hR) (wpAny_pure ?_))
 have hall:((vs.map g).toArray.all fun x=>x.isSome)=true:=by
  rw [List.all_toArray,List.all_map,List.all_eq_true]
  intro v hv
  obtain ⟨i,t,e,_⟩:=hg v hv
  show (g v).isSome=true
  rw [e]; rfl
 rw [if_pos hall]
 refine wpAny_bind (wpAny_rule ?_)
 have hfm:(Array.filterMap id (vs.map g).toArray)=(vs.filterMap g).toArray:=by
  simp [List.filterMap_map]
 rw [hfm,oneTypeOnly'_eq,List.mapM_toArray]
 have hi:∀ x∈vs.filterMap g,∃ i t,x=Value.int i t:=fun x hx=>by
  obtain ⟨v,hv,e⟩:=List.mem_filterMap.mp hx
  obtain ⟨i,t,e',_⟩:=hg v hv
  rw [e] at e'
  exact ⟨i,t,Option.some.inj e'⟩
 have hn:vs.filterMap g≠[]:=by
  obtain ⟨v,rest,rfl⟩:∃ v rest,vs=v :: rest:=by
   cases vs with
   | nil=>exact absurd rfl hne
   | cons v rest=>exact ⟨v,rest,rfl⟩
  obtain ⟨i,t,e,_⟩:=hg v (by simp)
  rw [List.filterMap_cons_some e]
  simp
 generalize vs.filterMap g=fs at hi hn
 refine wpAny_bind (wpAny_bind ?_)
 rw [map_eq_pure_bind]
 refine wpAny_bind (mapM_wp (g:=fun _=>Value.type "int") fs _ (fun x hx R hR=>?_) (wpAny_pure ?_))
 · obtain ⟨i,t,rfl⟩:=hi x hx
   exact wpAny_typeOf (typeIs_int s i t) hR
 · cases fs with
   | nil=>exact absurd rfl hn
   | cons x fs =>
     have hal:(((x :: fs).map fun _=>Value.type "int").toArray.all fun y=>y == Value.type "int")=true:=by
      rw [List.all_toArray,List.all_map,List.all_eq_true]
      intro y _
      rfl
     show wpAny _ _ (pure (if (((x :: fs).map fun _=>Value.type "int").toArray.all fun y=>y == Value.type "int")=true then some (Value.type "int") else none)) _ _ _
     rw [if_pos hal]
     exact wpAny_pure (wpAny_pure hq)
end
end TS
namespace TS
open PySem PySem.Spec PyProof.Rows L2 VT
section
variable {prog:Program} {w:World} {A:Around} {E:Value→Shared→Prop} {s:Shared}
theorem vals_perm:∀ {us us':List Value},us'.Perm us→∀ {xs:List V},Vals xs us→∃ zs:List V,zs.Perm xs∧Vals zs us':=by
 intro us us' p
 induction p with
 | nil=>intro xs r; cases r; exact ⟨[],.nil,.nil⟩
 | cons u _ ih =>
   intro xs r
   cases r with
   | cons r t =>
     obtain ⟨zs,p,q⟩:=ih t
     exact ⟨_,p.cons _,.cons r q⟩
 | swap u v l =>
   intro xs r
   cases r with
   | cons r1 t=>cases t with
     | cons r2 t=>exact ⟨_,.swap _ _ _,.cons r2 (.cons r1 t)⟩
 | trans _ _ ih1 ih2 =>
   intro xs r
   obtain ⟨zs,p,q⟩:=ih2 r
   obtain ⟨zs',p',q'⟩:=ih1 q
   exact ⟨zs',p'.trans p,q'⟩
end
section
variable {K:PySem.W.Frag} {H:Hp} {A:List Addr}
end
end TS
namespace TS
open PySem PySem.Spec PyProof.Rows L2 VT
section
variable {α:Type} (L:α→α→Bool)
structure Ord (l:List α):Prop where
 ir:∀ a∈l,L a a=false
 tr:∀ a∈l,∀ b∈l,∀ c∈l,L a b=true→L b c=true→L a c=true
 to:∀ a∈l,∀ b∈l,a≠b→L a b=true∨L b a=true
noncomputable def rank (l:List α) (a:α):Nat:=(l.filter fun b=>L b a).length
variable {L}
theorem filter_lt {p q:α→Bool}:∀ {l:List α},(∀ x∈l,p x=true→q x=true)→∀ {y},y∈l→p y=false→q y=true→(l.filter p).length < (l.filter q).length
 | x :: l,h,y,hy,h1,h2=>by
   have le:∀ {l:List α},(∀ x∈l,p x=true→q x=true)→(l.filter p).length≤(l.filter q).length:=by
    intro l
    induction l with
    | nil=>intro _; exact Nat.le_refl _
    | cons x l ih =>
      intro h
      have:=ih fun z hz=>h z (List.mem_cons_of_mem _ hz)
      rw [List.filter_cons,List.filter_cons]
      cases hp:p x with
      | true=>rw [h x (by simp) hp]; simpa using this
      | false =>
        cases hq:q x with
        | true=>simp; omega
        | false=>simpa using this
   have hl:=fun z hz=>h z (List.mem_cons_of_mem x hz)
   rw [List.filter_cons,List.filter_cons]
   rcases List.mem_cons.mp hy with rfl | hy
   · rw [h1,h2]
     have:=le hl
     simp; omega
   · have ih:=filter_lt hl hy h1 h2
     cases hp:p x with
     | true=>rw [h x (by simp) hp]; simpa using ih
     | false =>
       cases hq:q x with
       | true=>simp; omega
       | false=>simpa using ih
theorem Ord.rank_lt {l:List α} (o:Ord L l) {a b:α} (ha:a∈l) (hb:b∈l):decide (rank L l a < rank L l b)=L a b:=by
 have key:∀ {a b:α},a∈l→b∈l→L a b=true→rank L l a < rank L l b:=fun {a b} ha hb h =>
  filter_lt (fun x hx z=>o.tr x hx a ha b hb z h) ha (o.ir a ha) h
 cases h:L a b with
 | true=>exact decide_eq_true (key ha hb h)
 | false =>
   refine decide_eq_false fun z=>?_
   by_cases e:a=b
   · rw [e] at z; omega
   · rcases o.to a ha b hb e with q | q
     · rw [q] at h; cases h
     · have:=key hb ha q
       omega
theorem Ord.rank_inj {l:List α} (o:Ord L l) {a b:α} (ha:a∈l) (hb:b∈l) (h:rank L l a=rank L l b):a=b:=by
 by_cases e:a=b
 · exact e
 · exfalso
   rcases o.to a ha b hb e with q | q
   · have:=o.rank_lt ha hb; rw [q] at this; have:=of_decide_eq_true this; omega
   · have:=o.rank_lt hb ha; rw [q] at this; have:=of_decide_eq_true this; omega
end
noncomputable abbrev Tr:=Int×Str×Int
noncomputable def ltTr (a b:Tr):Bool:=if a.1=b.1 then (if a.2.1=b.2.1 then decide (a.2.2 < b.2.2) else decide (a.2.1.cps.toList < b.2.1.cps.toList)) else decide (a.1 < b.1)
theorem str_ext {x y:Str} (h:x.cps.toList=y.cps.toList):x=y:=by
 cases x; cases y; congr 1; exact Array.toList_inj.mp h
theorem ltTr_ir (a:Tr):ltTr a a=false:=by
 unfold ltTr
 rw [if_pos rfl,if_pos rfl]
 exact decide_eq_false (Int.lt_irrefl _)
theorem ltTr_to {a b:Tr} (h:a≠b):ltTr a b=true∨ltTr b a=true:=by
 unfold ltTr
 by_cases e1:a.1=b.1
 · rw [if_pos e1,if_pos e1.symm]
   by_cases e2:a.2.1=b.2.1
   · rw [if_pos e2,if_pos e2.symm]
     have:a.2.2≠b.2.2:=fun z=>h (Prod.ext e1 (Prod.ext e2 z))
     rcases Int.lt_or_gt_of_ne this with z | z
     · exact .inl (decide_eq_true z)
     · exact .inr (decide_eq_true z)
   · rw [if_neg e2,if_neg (fun z=>e2 z.symm)]
     by_cases z:a.2.1.cps.toList < b.2.1.cps.toList
     · exact .inl (decide_eq_true z)
     · refine .inr (decide_eq_true ?_)
       by_cases z2:b.2.1.cps.toList < a.2.1.cps.toList
       · exact z2
       · exact absurd (str_ext (List.le_antisymm (List.not_lt.mp z2) (List.not_lt.mp z))) e2
 · rw [if_neg e1,if_neg (fun z=>e1 z.symm)]
   rcases Int.lt_or_gt_of_ne e1 with z | z
   · exact .inl (decide_eq_true z)
   · exact .inr (decide_eq_true z)
theorem ltTr_tr {a b c:Tr} (h1:ltTr a b=true) (h2:ltTr b c=true):ltTr a c=true:=by
 unfold ltTr at h1 h2 ⊢
 by_cases e1:a.1=b.1
 · rw [if_pos e1] at h1
   by_cases e2:b.1=c.1
   · rw [if_pos e2] at h2
     rw [if_pos (e1.trans e2)]
     by_cases f1:a.2.1=b.2.1
     · rw [if_pos f1] at h1
       by_cases f2:b.2.1=c.2.1
       · rw [if_pos f2] at h2
         rw [if_pos (f1.trans f2)]
         exact decide_eq_true (Int.lt_trans (of_decide_eq_true h1) (of_decide_eq_true h2))
       · rw [if_neg f2] at h2
         rw [if_neg (by rw [f1]; exact f2),f1]; exact h2
     · rw [if_neg f1] at h1
       by_cases f2:b.2.1=c.2.1
       · rw [← f2,if_neg f1]; exact h1
       · rw [if_neg f2] at h2
         have z:=List.lt_trans (of_decide_eq_true h1) (of_decide_eq_true h2)
         rw [if_neg (fun q=>by rw [q] at z; exact List.lt_irrefl _ z)]
         exact decide_eq_true z
   · rw [if_neg e2] at h2
     rw [if_neg (by rw [e1]; exact e2),e1]; exact h2
 · rw [if_neg e1] at h1
   by_cases e2:b.1=c.1
   · rw [← e2,if_neg e1]; exact h1
   · rw [if_neg e2] at h2
     have z:=Int.lt_trans (of_decide_eq_true h1) (of_decide_eq_true h2)
     rw [if_neg (by omega)]
     exact decide_eq_true z
theorem sorted_eq:∀ {l m:List Tr},l.Pairwise (fun a b=>ltTr a b=true)→m.Pairwise (fun a b=>ltTr a b=true)→l.Perm m→l=m
 | [],m,_,_,p=>(List.nil_perm.mp p).symm
 | a :: l,[],_,_,p=>absurd p.length_eq (by simp)
 | a :: l,b :: m,h1,h2,p=>by
   rw [List.pairwise_cons] at h1 h2
   have e:a=b:=by
    have ha:a∈b :: m:=p.mem_iff.mp (by simp)
    have hb:b∈a :: l:=p.mem_iff.mpr (by simp)
    rcases List.mem_cons.mp ha with z | z
    · exact z
    · rcases List.mem_cons.mp hb with q | q
      · exact q.symm
      · have x:=h2.1 a z
        have y:=h1.1 b q
        have:=ltTr_tr x y
        rw [ltTr_ir] at this
        cases this
   subst e
   rw [sorted_eq h1.2 h2.2 (List.perm_cons a |>.mp p)]
section
variable {prog:Program} {w:World} {A:Around} {E:Value→Shared→Prop} {s:Shared}
theorem ltI {i j:Int} {t u:Tok} {Q:Bool→Shared→Prop} (hq:Q (decide (i < j)) s):wpAny (model prog w) A (oneLt' false (.int i t) (.int j u)) Q E s:=by
 rw [oneLt'_eq]
 simp only [Bool.false_eq_true,if_false]
 exact wpAny_bind (wpAny_richCompare_same (op:=.Lt) (T:="int") (typeIs_int s i t) (typeIs_int s j u) slot_int_lt (call_int_lt ⟨by simp,wpAny_truthy_bool hq⟩))
theorem ltS {x y:Str} {t u:Tok} {Q:Bool→Shared→Prop} (hq:Q (decide (x.cps.toList < y.cps.toList)) s):wpAny (model prog w) A (oneLt' false (.str x t) (.str y u)) Q E s:=by
 rw [oneLt'_eq]
 simp only [Bool.false_eq_true,if_false]
 exact wpAny_bind (wpAny_richCompare_same (op:=.Lt) (T:="str") (typeIs_str s x t) (typeIs_str s y u) slot_str_lt (call_str_lt ⟨by simp,wpAny_truthy_bool hq⟩))
noncomputable def TriIs (h:Heap) (v:Value) (a:Tr):Prop:=∃ t1 t2 t3,TupAt h v #[.int a.1 t1,.str a.2.1 t2,.int a.2.2 t3]
theorem cmp_tri {x y:Value} {a b:Tr} (hx:TriIs s.heap x a) (hy:TriIs s.heap y b) {Q:Bool→Shared→Prop} (hq:Q (ltTr a b) s):wpAny (model prog w) A (keyLt' (tuples' true) x y) Q E s:=by
 obtain ⟨t1,t2,t3,p,o,n,rfl,h1,h2,h3⟩:=hx
 obtain ⟨u1,u2,u3,p',o',n',rfl,h1',h2',h3'⟩:=hy
 rw [keyLt_tuples]
 refine wpAny_bind (listItems_at h1 h3 (wpAny_bind (listItems_at h1' h3' ?_)))
 have e:((#[Value.int a.1 t1,.str a.2.1 t2,.int a.2.2 t3]:Array Value).toList.zip (#[Value.int b.1 u1,.str b.2.1 u2,.int b.2.2 u3]:Array Value).toList).zipIdx=[((Value.int a.1 t1,Value.int b.1 u1),0),((Value.str a.2.1 t2,Value.str b.2.1 u2),1),((Value.int a.2.2 t3,Value.int b.2.2 u3),2)]:=rfl
 rw [e,List.forIn_cons]
 unfold ltTr at hq
 refine wpAny_bind (wpAny_bind (wpAny_bind (wpAny_eqBool_int ?_)))
 by_cases e1:a.1=b.1
 · rw [if_pos e1] at hq
   rw [if_neg (by simp [e1])]
   refine wpAny_pure ?_
   dsimp only
   rw [List.forIn_cons]
   refine wpAny_bind (wpAny_bind (wpAny_eqBool_str ?_))
   by_cases e2:a.2.1=b.2.1
   · rw [if_pos e2] at hq
     rw [if_neg (by simp [e2])]
     refine wpAny_pure ?_
     dsimp only
     rw [List.forIn_cons]
     refine wpAny_bind (wpAny_bind (wpAny_eqBool_int ?_))
     by_cases e3:a.2.2=b.2.2
     · rw [if_neg (by simp [e3])]
       refine wpAny_pure ?_
       dsimp only
       rw [List.forIn_nil]
       refine wpAny_pure ?_
       refine wpAny_pure ?_
       rw [decide_eq_false (by omega)] at hq
       exact hq
     · rw [if_pos (by simp [e3])]
       refine wpAny_bind (ltI ?_)
       refine wpAny_pure (wpAny_pure (wpAny_pure hq))
   · rw [if_neg e2] at hq
     rw [if_pos (by simp [e2])]
     refine wpAny_bind (ltS ?_)
     refine wpAny_pure (wpAny_pure (wpAny_pure hq))
 · rw [if_neg e1] at hq
   rw [if_pos (by simp [e1])]
   refine wpAny_bind (oneLt_int ?_)
   refine wpAny_pure (wpAny_pure (wpAny_pure hq))
end
end TS
namespace TS
open PySem PySem.Spec PyProof.Rows L2 VT
section
variable {prog:Program} {w:World} {A:Around} {E:Value→Shared→Prop} {s:Shared}
theorem tr_ord (l:List Tr):Ord ltTr l:=⟨fun a _=>ltTr_ir a,fun a _ b _ c _=>ltTr_tr,fun a _ b _=>ltTr_to⟩
noncomputable def rkV (tv:Value→Tr) (vs:List Value) (v:Value):Nat:=rank ltTr (vs.map tv) (tv v)
theorem rk_lt {tv:Value→Tr} {vs:List Value} {a b:Value} (ha:a∈vs) (hb:b∈vs):decide (rkV tv vs a < rkV tv vs b)=ltTr (tv a) (tv b):=(tr_ord _).rank_lt (List.mem_map_of_mem ha) (List.mem_map_of_mem hb)
theorem rk_apart {tv:Value→Tr} {vs:List Value} (nd:(vs.map tv).Nodup):((pairsOf vs).toList.map fun p=>rkV tv vs p.1).Nodup:=by
 have e:(pairsOf vs).toList.map (fun p=>rkV tv vs p.1)=vs.map (rkV tv vs):=by
  rw [pairsOf_toList]
  have:∀ l:List Value,(l.zip l).map (fun p:Keyed=>rkV tv vs p.1)=l.map (rkV tv vs):=fun l=>by
   induction l with
   | nil=>rfl
   | cons x l ih=>rw [List.zip_cons_cons,List.map_cons,List.map_cons,ih]
  exact this vs
 rw [e]
 unfold List.Nodup at nd ⊢
 rw [List.pairwise_map] at nd ⊢
 refine List.Pairwise.imp_of_mem (fun {a b} ha hb h z=>?_) nd
 exact h ((tr_ord _).rank_inj (List.mem_map_of_mem ha) (List.mem_map_of_mem hb) z)
theorem out_order {tv:Value→Tr} {vs:List Value} {xs:Array Keyed} (hp:xs.Perm (pairsOf vs)) (hi:Inc (rkV tv vs) xs (pairsOf vs).size):(((xs.map (·.2)).toList).map tv).Pairwise (fun a b=>ltTr a b=true):=by
 rw [List.pairwise_map,List.pairwise_iff_getElem]
 intro i j hi' hj' hij
 have sz:xs.size=(pairsOf vs).size:=hp.size_eq
 rw [Array.length_toList,Array.size_map] at hi' hj'
 have mem:∀ k (hk:k < xs.size),xs[k].1=xs[k].2∧xs[k].1∈vs:=fun k hk=>by
  have:=(Array.perm_iff_toList_perm.mp hp).mem_iff.mp (show xs[k]∈xs.toList by simp)
  rw [pairsOf_toList] at this
  exact mem_zip_self this
 have ra:∀ k (hk:k < xs.size),rA (rkV tv vs) xs k=rkV tv vs xs[k].2:=fun k hk=>by
  unfold rA
  rw [getElem?_pos xs k hk]
  dsimp only
  rw [(mem k hk).1]
 have h:=hi i j hij (by omega)
 rw [ra i hi',ra j hj'] at h
 have q:=rk_lt (tv:=tv) (vs:=vs) (a:=xs[i].2) (b:=xs[j].2) (by rw [← (mem i hi').1]; exact (mem i hi').2) (by rw [← (mem j hj').1]; exact (mem j hj').2)
 rw [decide_eq_true h] at q
 simp only [Array.getElem_toList,Array.getElem_map]
 exact q.symm
theorem sortR {l:Addr} {vs:List Value} {ep:Nat} {P:Fin→Shared→Prop} (tv:Value→Tr) (hl:s.heap.get? l=some (seqObj "list" vs.toArray ep)) (h64:vs.length < 64) (nd:(vs.map tv).Nodup)
  (ht:∀ g:Heap,(∀ b o,b≠l→s.heap.get? b=some o→g.get? b=some o)→∀ v∈vs,TriIs g v (tv v))
  (h:∀ out:Array Value,out.toList.Perm vs→(out.toList.map tv).Pairwise (fun a b=>ltTr a b=true)→P (.done (.ret .none)) { s with heap:=sortedHeap s.heap l vs out }) :
  wpAny (model prog w) A (Builtin.«list.sort» ⟨[.ref l],[]⟩) P E s:=by
 have hlt:l < s.heap.objs.size:=Heap.lt_size hl
 have n64:vs.length≤sizeLine:=by rw [sizeLine_eq]; omega
 rw [list_sort_plain]
 refine wpAny_bind (listItems_at hl rfl (wpAny_bind (listUpdate_at hl rfl ?_)))
 obtain ⟨e1,g1⟩:∃ e1,(s.heap.update l (Obj.mapSeq fun _=>#[])).get? l=some (seqObj "list" #[] e1):=⟨_,get?_update_seq hl _⟩
 refine wpAny_bind (seqEpoch_at g1 rfl (wpAny_bind (wpAny_newTuple (wpAny_bind (wpAny_newList (wpAny_holding ?_))) (by simpa using n64))))
 show wpAny (model prog w) A _ P E { s with heap:=((s.heap.update l (Obj.mapSeq fun _=>#[])).push (seqObj "tuple" vs.toArray 0)).push (seqObj "list" #[] 0) }
 generalize hg:((s.heap.update l (Obj.mapSeq fun _=>#[])).push (seqObj "tuple" vs.toArray 0)).push (seqObj "list" #[] 0)=g
 have g2:g.get? l=some (seqObj "list" #[] e1):=by
  subst hg
  exact Heap.get?_push_of_some _ (Heap.get?_push_of_some _ g1)
 have old:∀ b o,b≠l→s.heap.get? b=some o→g.get? b=some o:=fun b o hb e=>by
  subst hg
  refine Heap.get?_push_of_some _ (Heap.get?_push_of_some _ ?_)
  rw [Heap.get?_update_ne _ _ _ _ hb]; exact e
 have tri:=ht g old
 have out:∀ xs:Array Keyed,xs.Perm (pairsOf vs)→Inc (rkV tv vs) xs (pairsOf vs).size→P (.done (.ret .none)) { s with heap:=g.update l (Obj.mapSeq fun _=>xs.map (·.2)) }:=fun xs hp hi=>by
  have:=h (xs.map (·.2)) (perm_snd hp) (out_order hp hi)
  unfold sortedHeap at this
  rw [hg] at this
  exact this
 have osz:∀ xs:Array Keyed,xs.Perm (pairsOf vs)→(xs.map (·.2)).size≤sizeLine:=fun xs hp=>by
  rw [Array.size_map,hp.size_eq,pairsOf_size]; exact n64
 dsimp only
 by_cases h2:vs.toArray.size < 2
 · rw [if_pos h2,if_pos h2]
   refine wpAny_bind (wpAny_pure ?_)
   rw [StateT.run_pure]
   refine wpAny_bind (wpAny_pure ?_)
   refine wpAny_bind (seqEpoch_at g2 rfl (wpAny_bind (listUpdate_at g2 rfl ?_ (hsz2:=Nat.le_succ_of_le (osz (pairsOf vs) (Array.Perm.refl _))))))
   simp only [bne_self_eq_false,Bool.false_eq_true,if_false]
   refine wpAny_pure (out (pairsOf vs) (Array.Perm.refl _) fun i j h3 h4=>?_)
   rw [pairsOf_size] at h4
   rw [List.size_toArray] at h2
   omega
 · rw [if_neg h2,if_neg h2]
   have h2':2≤vs.length:=by rw [List.size_toArray] at h2; omega
   have kd:∀ Q:SortKind→Shared→Prop,Q (tuples' true) { s with heap:=g }→wpAny (model prog w) A (keyKind' vs.toArray) Q E { s with heap:=g }:=fun Q hq=>by
    refine kind_tup (by rintro rfl; simp at h2') (fun v hv=>?_) hq
    obtain ⟨t1,t2,t3,ta⟩:=tri v hv
    exact ⟨_,_,_,ta,rfl⟩
   have cm:CmpR prog w A (fun _ _=>False) { s with heap:=g } (tuples' true) (pairsOf vs) (rkV tv vs):=fun p hp q hq R hR=>by
    rw [pairsOf_toList] at hp hq
    obtain ⟨_,mp⟩:=mem_zip_self hp
    obtain ⟨_,mq⟩:=mem_zip_self hq
    rw [rk_lt mp mq] at hR
    exact cmp_tri (s:={ s with heap:=g }) (tri _ mp) (tri _ mq) hR
   refine wpAny_bind (kd _ ?_)
   refine wpAny_bind (wpAny_mono (runsR (E:=E) (st:=SortSt.mk' (tuples' true) (vs.toArray.zip vs.toArray) #[] 7 none) (Q:=fun _ st'=>((arrOf st').Perm (pairsOf vs)∧Inc (rkV tv vs) (arrOf st') (pairsOf vs).size)∧failedOf st'=none) cm ⟨⟨Array.Perm.refl _,rfl,rfl,rfl⟩,rk_apart nd⟩ (by rw [pairsOf_size]; exact h2') (by rw [pairsOf_size]; exact h64) fun st' p1 p2 p3=>⟨⟨p1,p2⟩,p3⟩) ?_ fun _ _ z=>z)
   rintro ⟨⟨⟩,st'⟩ s' ⟨rfl,⟨hp,hi⟩,hf⟩
   dsimp only
   refine wpAny_bind (seqEpoch_at g2 rfl (wpAny_bind (listUpdate_at g2 rfl ?_ (hsz2:=Nat.le_succ_of_le (osz _ hp)))))
   rw [hf]
   simp only [bne_self_eq_false,Bool.false_eq_true,if_false]
   exact wpAny_pure (out _ hp hi)
end
end TS
namespace TS
open PySem PySem.Spec PyProof.Rows L2 VT
section
variable {prog:Program} {w:World} {A:Around} {E:Value→Shared→Prop} {s:Shared}
theorem triIs_inj {h:Heap} {v:Value} {a b:Tr} (x:TriIs h v a) (y:TriIs h v b):a=b:=by
 obtain ⟨t1,t2,t3,p,o,n,rfl,h1,h2,h3⟩:=x
 obtain ⟨u1,u2,u3,p',o',n',e,h1',h2',h3'⟩:=y
 cases e
 rw [h1] at h1'
 cases h1'
 rw [h3] at h3'
 injection h3' with e1 e2
 have:=congrArg Array.toList e1
 simp only [List.cons.injEq,Value.int.injEq,Value.str.injEq] at this
 obtain ⟨⟨q1,_⟩,⟨q2,_⟩,⟨q3,_⟩,_⟩:=this
 exact Prod.ext q1 (Prod.ext q2 q3)
open Classical in
noncomputable def trOf (h:Heap) (v:Value):Tr:=if z:∃ a,TriIs h v a then z.choose else (0,⟨#[]⟩,0)
theorem trOf_eq {h:Heap} {v:Value} {a:Tr} (x:TriIs h v a):trOf h v=a:=by
 unfold trOf
 have z:∃ a,TriIs h v a:=⟨a,x⟩
 rw [dif_pos z]
 exact triIs_inj z.choose_spec x
theorem sorted_triR {l:Addr} {vs:List Value} {as:List Tr} {Q:Value→Shared→Prop} (hl:s.heap.IsList l vs.toArray) (h64:vs.length < 64) (ht:Paired (fun v a=>TriIs s.heap v a) vs as) (nd:as.Nodup)
  (h:∀ out:Array Value,out.toList.Perm vs→(out.toList.map (trOf s.heap)).Perm as→(out.toList.map (trOf s.heap)).Pairwise (fun a b=>ltTr a b=true)→Q (.ref (s.heap.objs.size+1)) { s with heap:=sortedAll s.heap vs out }) :
  wpAny (model prog w) A (call (.builtin "sorted") [.ref l]) Q E s:=by
 have n64:vs.length≤sizeLine:=by rw [sizeLine_eq]; omega
 have em:vs.map (trOf s.heap)=as:=by
  clear h h64 n64 hl nd
  induction ht with
  | nil=>rfl
  | cons r _ ih=>rw [List.map_cons,trOf_eq r,ih]
 have each:∀ v∈vs,TriIs s.heap v (trOf s.heap v):=fun v hv=>by
  clear h h64 n64 hl nd em
  induction ht with
  | nil=>cases hv
  | cons r _ ih =>
    rcases List.mem_cons.mp hv with rfl | hv
    · rw [trOf_eq r]; exact r
    · exact ih hv
 refine Calls.call_function_entry kind_sorted plain_sorted entry_sorted (args_sorted1 _) ?_
 unfold Builtin.«sorted»
 refine wpAny_bind (m:=checkCount "sorted" 1 1 _) (wpAny_pure ?_)
 refine wpAny_bind (collect_list hl ?_ n64)
 have hz:((s.heap.push (seqObj "list" #[] 0)).update s.heap.objs.size (Obj.mapSeq (· ++ vs.toArray))).objs.size=s.heap.objs.size+1:=by
  rw [Heap.size_update,size_push']
 have old:∀ b o,s.heap.get? b=some o→(((s.heap.push (seqObj "list" #[] 0)).update s.heap.objs.size (Obj.mapSeq (· ++ vs.toArray))).push (seqObj "list" vs.toArray 0)).get? b=some o:=fun b o e=>by
  refine Heap.get?_push_of_some _ ?_
  rw [Heap.get?_update_ne _ _ _ _ (Nat.ne_of_lt (Heap.lt_size e))]
  exact Heap.get?_push_of_some _ e
 refine wpAny_bind (wpAny_newList ?_ n64)
 have ho:(((s.heap.push (seqObj "list" #[] 0)).update s.heap.objs.size (Obj.mapSeq (· ++ vs.toArray))).push (seqObj "list" vs.toArray 0)).get? (s.heap.objs.size+1)=some (seqObj "list" vs.toArray 0):=by
  rw [← hz]; exact Heap.get?_push_size _ rfl
 show wpAny _ _ _ _ _ { s with heap:=((s.heap.push (seqObj "list" #[] 0)).update s.heap.objs.size (Obj.mapSeq (· ++ vs.toArray))).push (seqObj "list" vs.toArray 0) }
 rw [hz]
 have tri2:∀ g:Heap,(∀ b o,b≠s.heap.objs.size+1→(((s.heap.push (seqObj "list" #[] 0)).update s.heap.objs.size (Obj.mapSeq (· ++ vs.toArray))).push (seqObj "list" vs.toArray 0)).get? b=some o→g.get? b=some o)→∀ v∈vs,TriIs g v (trOf s.heap v):=fun g hg v hv=>by
  obtain ⟨t1,t2,t3,a,o,n,rfl,e,c,d⟩:=each v hv
  exact ⟨t1,t2,t3,a,o,n,rfl,hg a o (Nat.ne_of_lt (Nat.lt_succ_of_lt (Heap.lt_size e))) (old a o e),c,d⟩
 refine wpAny_bind (wpAny_holding (wpAny_call_entry slot_list_sort ⟨_,ho,rfl⟩ entry_list_sort (sortR (trOf s.heap) ho h64 (by rw [em]; exact nd) (fun g hg=>tri2 g hg) fun out hp hs=>⟨_,rfl,?_⟩) (args_list_sort _)))
 exact wpAny_pure ⟨_,rfl,h out hp (by rw [← em]; exact hp.map _) hs⟩
end
noncomputable def TrAt (K:PySem.W.Frag) (H:Hp) (w:V) (a:Tr):Prop:=∃ b,w = .ref b∧SqT K H b [.int a.1,.str a.2.1,.int a.2.2]
theorem call_sorted_triR {X:Cx}:CallR X (.builtin "sorted") (fun xs H Q=>∃ (p:Addr) (ws:List V) (as:List Tr),xs=[.ref p]∧SqL X.K H p ws∧ws.length < 64∧Paired (TrAt X.K H) ws as∧as.Nodup ∧
  ∀ zs bs,Paired (TrAt X.K H) zs bs→bs.Perm as→bs.Pairwise (fun a b=>ltTr a b=true)→∀ a,H a=none→Q (.ref a) (upd H a (.lst zs))):=by
 intro pins s σ H xs us Q I r h
 obtain ⟨p,ws,as,rfl,hq,hl,ht,nd,q⟩:=h
 obtain ⟨u,rfl,ru⟩:=vals1 r
 cases ru
 obtain ⟨its,rv,pl,hz⟩:=I.list hq
 have e:=rv.length
 have tri:∀ {w:V} {v:Value} {a:Tr},RelV w v→TrAt X.K H w a→TriIs s.heap v a:=fun {w v a} rw' ⟨b,eb,hb⟩=>by
  subst eb
  have ev:v = .ref b:=rw'
  subst ev
  obtain ⟨ps,pv,⟨o,ho,hc,n,hd⟩,_⟩:=I.tuple hb
  cases pv with
  | cons r1 pv=>cases pv with
    | cons r2 pv=>cases pv with
      | cons r3 pv =>
        cases pv
        obtain ⟨t1,rfl⟩:=r1
        obtain ⟨t2,rfl⟩:=r2
        obtain ⟨t3,rfl⟩:=r3
        exact ⟨t1,t2,t3,b,o,n,rfl,ho,hc,hd⟩
 have ht':Paired (fun v a=>TriIs s.heap v a) its as:=by
  clear hz pl hq hl nd q e r
  induction rv generalizing as with
  | nil=>cases ht; exact .nil
  | cons r1 _ ih=>cases ht with
    | cons t1 t2=>exact .cons (tri r1 t1) (ih _ t2)
 refine sorted_triR pl.isList (by omega) ht' nd fun out hp hpa hs=>?_
 obtain ⟨zs,p1,p2⟩:=vals_perm hp rv
 have key:∀ {zs:List V} {vs:List Value},Vals zs vs→(∀ z∈zs,∃ a,TrAt X.K H z a)→Paired (TrAt X.K H) zs (vs.map (trOf s.heap)):=by
  intro zs vs hv
  induction hv with
  | nil=>intro _; exact .nil
  | cons r1 _ ih =>
    intro hh
    obtain ⟨a,ha⟩:=hh _ List.mem_cons_self
    rw [List.map_cons,trOf_eq (tri r1 ha)]
    exact .cons ha (ih fun z hz=>hh z (List.mem_cons_of_mem _ hz))
 have all:∀ w∈ws,∃ a,TrAt X.K H w a:=fun w hw=>by
  clear ht' tri key hz pl hq hl nd q e r rv p1 p2 hpa hs hp
  induction ht with
  | nil=>cases hw
  | cons r1 _ ih =>
    rcases List.mem_cons.mp hw with rfl | hw
    · exact ⟨_,r1⟩
    · exact ih hw
 refine sorted_laid I p2 ?_ (q zs _ (key p2 fun z hz'=>all z (p1.mem_iff.mp hz')) hpa hs)
 rw [p1.length_eq]; exact hz
noncomputable def tT (a:Tr):T:=.tup [.int a.1,.str a.2.1,.int a.2.2]
noncomputable def pSortR (ts:List T) (q:Rt→Prop):Prop:=∃ as:List Tr,ts=[.lst (as.map tT)]∧as.length < 64∧as.Nodup∧∀ bs:List Tr,bs.Perm as→bs.Pairwise (fun a b=>ltTr a b=true)→q (.fr (.lst (bs.map tT)))
section
variable {K:PySem.W.Frag} {H:Hp} {A:List Addr}
theorem tr_at {a:Tr} {w:V} (h:At K H A (tT a) w):TrAt K H w a:=by
 obtain ⟨b,us,rfl,h2,h3⟩:=AtR.tup (.inl h)
 simp only [AtL,At] at h3
 obtain ⟨_,_,rfl,rfl,_,_,rfl,rfl,_,_,rfl,rfl,rfl⟩:=h3
 exact ⟨b,rfl,h2⟩
theorem at_tr {a:Tr} {w:V} (h:TrAt K H w a):At K H A (tT a) w:=by
 obtain ⟨b,rfl,h⟩:=h
 exact at_tup h (AtL.cons at_int (AtL.cons at_str (AtL.cons at_int AtL.nil)))
theorem trs_at:∀ {as:List Tr} {ws:List V},AtL K H A (as.map tT) ws→Paired (TrAt K H) ws as
 | [],ws,h=>by
   simp only [List.map_nil,AtL] at h
   subst h
   exact .nil
 | a :: as,ws,h=>by
   simp only [List.map_cons,AtL] at h
   obtain ⟨v,r,rfl,h1,h2⟩:=h
   exact .cons (tr_at h1) (trs_at h2)
theorem at_trs {ws:List V} {as:List Tr} (h:Paired (TrAt K H) ws as):AtL K H A (as.map tT) ws:=by
 induction h with
 | nil=>exact AtL.nil
 | cons r _ ih=>exact AtL.cons (at_tr r) ih
theorem callT_sortR:CallT K (fun xs H Q=>∃ (p:Addr) (ws:List V) (as:List Tr),xs=[.ref p]∧SqL K H p ws∧ws.length < 64∧Paired (TrAt K H) ws as∧as.Nodup ∧
  ∀ zs bs,Paired (TrAt K H) zs bs→bs.Perm as→bs.Pairwise (fun a b=>ltTr a b=true)→∀ a,H a=none→Q (.ref a) (upd H a (.lst zs))) pSortR:=by
 intro Z tm O ρ σ H ts vs q Q I h hp k
 obtain ⟨as,rfl,hl,nd,hq⟩:=hp
 obtain ⟨v,rfl,a⟩:=paired1 h
 obtain ⟨p,ws,rfl,hs,hv⟩:=a.lst
 have e:=hv.length
 rw [List.length_map] at e
 exact ⟨p,ws,as,rfl,hs,by omega,trs_at hv,nd,fun zs bs h1 h2 h3 b hb=>k _ (hq bs h2 h3) _ _ (same_upd hb) (I.newL hb (at_trs h1))⟩
end
end TS
namespace BS
open PySem PySem.Builtin PyProof.Rows
noncomputable def ib (x:Int) (k:Nat):Bool:=decide (x / 2 ^ k % 2=1)
theorem two_pos (k:Nat):(0:Int) < 2 ^ k:=Int.pow_pos (by decide)
theorem pow_cast (k:Nat):((2 ^ k:Nat):Int)=2 ^ k:=by rw [Int.natCast_pow]; rfl
theorem ib_nat (n k:Nat):ib (n:Int) k=n.testBit k:=by
 unfold ib
 rw [Nat.testBit_eq_decide_div_mod_eq,← pow_cast]
 have:((n:Int) / ((2 ^ k:Nat):Int) % 2=1)↔(n / 2 ^ k % 2=1):=by
  rw [← Int.natCast_ediv]; omega
 exact decide_eq_decide.mpr this
theorem ib_not (x:Int) (k:Nat):ib (bitNot x) k = !ib x k:=by
 unfold ib bitNot
 have h:(-x - 1) / 2 ^ k = -(x / 2 ^ k) - 1:=by
  have hp:=two_pos k
  have e1:=Int.mul_ediv_add_emod x (2 ^ k)
  have e2:=Int.emod_nonneg x (Int.ne_of_gt hp)
  have e3:=Int.emod_lt_of_pos x hp
  refine (Int.ediv_emod_unique hp (r:=2 ^ k - 1 - x % 2 ^ k)).mpr ⟨?_,?_,?_⟩ |>.1
  · have:2 ^ k * (-(x / 2 ^ k) - 1) = -(2 ^ k * (x / 2 ^ k)) - 2 ^ k:=by rw [Int.mul_sub,Int.mul_neg,Int.mul_one]
    rw [this]; omega
  · omega
  · omega
 rw [h]
 by_cases q:x / 2 ^ k % 2=1
 · rw [decide_eq_true q,decide_eq_false (by omega)]; rfl
 · rw [decide_eq_false q,decide_eq_true (by omega)]; rfl
theorem ib_ext {x y:Int} (h:∀ k,ib x k=ib y k):x=y:=by
 have pos:∀ (m n:Nat),(∀ k,ib (m:Int) k=ib (n:Int) k)→m=n:=fun m n q=>Nat.eq_of_testBit_eq fun k=>by rw [← ib_nat,← ib_nat]; exact q k
 have mix:∀ (m:Nat) (y:Int),¬ 0≤y→¬ ∀ k,ib (m:Int) k=ib y k:=by
  intro m y hy q
  have hn:0≤bitNot y:=bitNot_nonneg.mpr hy
  obtain ⟨n,hn⟩:=Int.eq_ofNat_of_zero_le hn
  have h1:=q (m+n)
  rw [← bitNot_bitNot y,ib_not,hn,ib_nat,ib_nat] at h1
  have a1:m.testBit (m+n)=false:=Nat.testBit_lt_two_pow (Nat.lt_of_le_of_lt (Nat.le_add_right m n) Nat.lt_two_pow_self)
  have a2:n.testBit (m+n)=false:=Nat.testBit_lt_two_pow (Nat.lt_of_le_of_lt (Nat.le_add_left n m) Nat.lt_two_pow_self)
  rw [a1,a2] at h1
  cases h1
 by_cases hx:0≤x
 · obtain ⟨m,rfl⟩:=Int.eq_ofNat_of_zero_le hx
   by_cases hy:0≤y
   · obtain ⟨n,rfl⟩:=Int.eq_ofNat_of_zero_le hy
     exact congrArg _ (pos m n h)
   · exact (mix m y hy h).elim
 · by_cases hy:0≤y
   · obtain ⟨n,rfl⟩:=Int.eq_ofNat_of_zero_le hy
     exact (mix n x hx fun k=>(h k).symm).elim
   · have a:=bitNot_nonneg.mpr hx
     have b:=bitNot_nonneg.mpr hy
     obtain ⟨m,hm⟩:=Int.eq_ofNat_of_zero_le a
     obtain ⟨n,hn⟩:=Int.eq_ofNat_of_zero_le b
     have:m=n:=pos m n fun k=>by rw [← hm,← hn,ib_not,ib_not,h k]
     rw [← bitNot_bitNot x,← bitNot_bitNot y,hm,hn,this]
theorem nat_sub_and (x m:Nat):x - (x &&& m)=x ^^^ (x &&& m):=by
 have h:=nat_or_add_and (x ^^^ (x &&& m)) (x &&& m)
 have e1:(x ^^^ (x &&& m)) ||| (x &&& m)=x:=Nat.eq_of_testBit_eq fun k=>by
  simp only [Nat.testBit_or,Nat.testBit_xor,Nat.testBit_and]
  cases x.testBit k <;> cases m.testBit k <;> rfl
 have e2:(x ^^^ (x &&& m)) &&& (x &&& m)=0:=Nat.eq_of_testBit_eq fun k=>by
  simp only [Nat.testBit_xor,Nat.testBit_and,Nat.zero_testBit]
  cases x.testBit k <;> cases m.testBit k <;> rfl
 rw [e1,e2] at h
 omega
theorem ib_and (x y:Int) (k:Nat):ib (bitAnd x y) k=(ib x k && ib y k):=by
 have pn:∀ (m:Nat) (y:Int),¬ 0≤y→ib ((m:Int) - ((m &&& (bitNot y).toNat:Nat):Int)) k=(ib (m:Int) k && ib y k):=by
  intro m y hy
  obtain ⟨n,hn⟩:=Int.eq_ofNat_of_zero_le (bitNot_nonneg.mpr hy)
  have e:ib y k = !n.testBit k:=by rw [← bitNot_bitNot y,ib_not,hn,ib_nat]
  rw [hn,Int.toNat_natCast,← Int.ofNat_sub Nat.and_le_left,nat_sub_and,ib_nat,ib_nat,e]
  simp only [Nat.testBit_xor,Nat.testBit_and]
  cases m.testBit k <;> cases n.testBit k <;> rfl
 by_cases hx:0≤x
 · obtain ⟨m,rfl⟩:=Int.eq_ofNat_of_zero_le hx
   by_cases hy:0≤y
   · obtain ⟨n,rfl⟩:=Int.eq_ofNat_of_zero_le hy
     rw [bitAnd_pp hx hy,Int.toNat_natCast,Int.toNat_natCast,ib_nat,ib_nat,ib_nat,Nat.testBit_and]
   · rw [bitAnd_pn hx hy,Int.toNat_natCast]
     exact pn m y hy
 · by_cases hy:0≤y
   · obtain ⟨n,rfl⟩:=Int.eq_ofNat_of_zero_le hy
     rw [bitAnd_np hx hy,Int.toNat_natCast,pn n x hx,Bool.and_comm]
   · obtain ⟨m,hm⟩:=Int.eq_ofNat_of_zero_le (bitNot_nonneg.mpr hx)
     obtain ⟨n,hn⟩:=Int.eq_ofNat_of_zero_le (bitNot_nonneg.mpr hy)
     rw [bitAnd_nn hx hy,hm,hn,Int.toNat_natCast,Int.toNat_natCast,ib_not,ib_nat,Nat.testBit_or,← ib_nat,← ib_nat,← hm,← hn,ib_not,ib_not]
     cases ib x k <;> cases ib y k <;> rfl
theorem ib_or (x y:Int) (k:Nat):ib (bitOr x y) k=(ib x k || ib y k):=by
 unfold bitOr
 rw [ib_not,ib_and,ib_not,ib_not]
 cases ib x k <;> cases ib y k <;> rfl
theorem ib_zero (k:Nat):ib 0 k=false:=by
 have:=ib_nat 0 k
 rw [Nat.zero_testBit] at this
 exact this
theorem ib_shr (x:Int) (j k:Nat):ib (x / 2 ^ j) k=ib x (j+k):=by
 unfold ib
 rw [Int.ediv_ediv_of_nonneg (Int.le_of_lt (two_pos j)),← Int.pow_add]
theorem ib_mod (x:Int) (j k:Nat):ib (x % 2 ^ j) k=(decide (k < j) && ib x k):=by
 have pos:∀ n:Nat,ib ((n:Int) % 2 ^ j) k=(decide (k < j) && n.testBit k):=fun n=>by
  rw [← pow_cast,← Int.natCast_emod,ib_nat,Nat.testBit_mod_two_pow]
 by_cases hx:0≤x
 · obtain ⟨m,rfl⟩:=Int.eq_ofNat_of_zero_le hx
   rw [pos,ib_nat]
 · obtain ⟨m,hm⟩:=Int.eq_ofNat_of_zero_le (bitNot_nonneg.mpr hx)
   have e:x = -(m:Int) - 1:=by unfold bitNot at hm; omega
   have hp:=two_pos j
   have e2:x % 2 ^ j=2 ^ j - 1 - (m:Int) % 2 ^ j:=by
    have e1:=Int.mul_ediv_add_emod (m:Int) (2 ^ j)
    have e2:=Int.emod_nonneg (m:Int) (Int.ne_of_gt hp)
    have e3:=Int.emod_lt_of_pos (m:Int) hp
    refine (Int.ediv_emod_unique hp (q:=-((m:Int) / 2 ^ j) - 1)).mpr ⟨?_,?_,?_⟩ |>.2
    · have:2 ^ j * (-((m:Int) / 2 ^ j) - 1) = -(2 ^ j * ((m:Int) / 2 ^ j)) - 2 ^ j:=by rw [Int.mul_sub,Int.mul_neg,Int.mul_one]
      rw [this]; omega
    · omega
    · omega
   have e3:x % 2 ^ j=((2 ^ j - (m % 2 ^ j+1):Nat):Int):=by
    have hlt:m % 2 ^ j < 2 ^ j:=Nat.mod_lt _ (Nat.two_pow_pos j)
    have a1:(m:Int) % 2 ^ j=((m % 2 ^ j:Nat):Int):=by rw [Int.natCast_emod,pow_cast]
    have a2:=pow_cast j
    rw [e2,a1,← a2]
    generalize 2 ^ j=P at hlt ⊢
    omega
   have hb:ib x k = !m.testBit k:=by rw [← bitNot_bitNot x,ib_not,hm,ib_nat]
   rw [e3,ib_nat,Nat.testBit_two_pow_sub_succ (Nat.mod_lt _ (Nat.two_pow_pos j)),Nat.testBit_mod_two_pow,hb]
   by_cases q:k < j
   · rw [decide_eq_true q,Bool.true_and,Bool.true_and,Bool.true_and]
   · rw [decide_eq_false q,Bool.false_and,Bool.false_and]
theorem ib_shl (x:Int) (j k:Nat):ib (x * 2 ^ j) k=(decide (j≤k) && ib x (k - j)):=by
 by_cases h:j≤k
 · obtain ⟨d,rfl⟩:=Nat.exists_eq_add_of_le h
   rw [decide_eq_true h,Bool.true_and,Nat.add_sub_cancel_left,← ib_shr,Int.mul_ediv_cancel _ (Int.ne_of_gt (two_pos j))]
 · rw [decide_eq_false h,Bool.false_and]
   have q:=ib_mod (x * 2 ^ j) j k
   rw [Int.mul_emod_left,ib_zero,decide_eq_true (by omega),Bool.true_and] at q
   exact q.symm
theorem ib_one (k:Nat):ib 1 k=decide (k=0):=by
 cases k with
 | zero=>decide
 | succ k =>
   have h:(1:Int) / 2 ^ (k+1)=0:=Int.ediv_eq_zero_of_lt (by decide) (by rw [Int.pow_succ]; have:=two_pos k; omega)
   unfold ib
   rw [h]
   rfl
theorem ib_bit (j k:Nat):ib (2 ^ j) k=decide (k=j):=by
 have h:=ib_shl 1 j k
 rw [Int.one_mul,ib_one] at h
 rw [h]
 by_cases e:k=j
 · subst e; simp
 · rw [decide_eq_false e]
   by_cases l:j≤k
   · rw [decide_eq_false (by omega:¬ k - j=0),Bool.and_false]
   · rw [decide_eq_false l,Bool.false_and]
theorem ib_bit1 (j k:Nat):ib (1 * 2 ^ j) k=decide (k=j):=by rw [Int.one_mul,ib_bit]
theorem or_nn {x y:Int} (h:0≤x) (h':0≤y):0≤bitOr x y:=by
 unfold bitOr
 rw [bitAnd_nn (fun q=>(bitNot_nonneg.mp q) h) (fun q=>(bitNot_nonneg.mp q) h'),bitNot_bitNot]
 exact Int.natCast_nonneg _
noncomputable def sub (y x:Int):Prop:=∀ k,ib y k=true→ib x k=true
theorem sub_refl (x:Int):sub x x:=fun _ h=>h
theorem sub_trans {x y z:Int} (h:sub x y) (h':sub y z):sub x z:=fun k q=>h' k (h k q)
theorem sub_or_left (x y:Int):sub x (bitOr x y):=fun k h=>by rw [ib_or,h]; rfl
theorem sub_or_right (x y:Int):sub y (bitOr x y):=fun k h=>by rw [ib_or,h,Bool.or_true]
noncomputable def below (m:Nat) (x:Int):Prop:=0≤x∧x < 2 ^ m
end BS
namespace BS
open PySem PySem.Builtin PyProof.Rows
noncomputable def cnt (x:Int):Nat→Nat
 | 0=>0
 | k+1=>cnt x k+(if ib x k=true then 1 else 0)
theorem cnt_le (x:Int):∀ k,cnt x k≤k
 | 0=>Nat.le_refl _
 | k+1=>by have:=cnt_le x k; simp only [cnt]; split <;> omega
theorem cnt_mono {x y:Int} (h:sub x y):∀ k,cnt x k≤cnt y k
 | 0=>Nat.le_refl _
 | k+1=>by
   have:=cnt_mono h k
   simp only [cnt]
   by_cases q:ib x k=true
   · rw [if_pos q,if_pos (h k q)]; omega
   · rw [if_neg q]; omega
theorem cnt_lt {x y:Int} (h:sub x y) {j:Nat} (hy:ib y j=true) (hx:ib x j=false):∀ k,j < k→cnt x k < cnt y k
 | 0,q=>by omega
 | k+1,q=>by
   simp only [cnt]
   by_cases e:j=k
   · subst e
     have:=cnt_mono h j
     rw [if_pos hy,hx,if_neg (by decide)]; omega
   · have:=cnt_lt h hy hx k (by omega)
     by_cases q:ib x k=true
     · rw [if_pos q,if_pos (h k q)]; omega
     · rw [if_neg q]; omega
section
variable {net:List Int}
end
end BS
namespace K20
open PySem L2 VT BS
open PySem.Builtin (bitOr)
noncomputable abbrev Ent:=(Int×Str)×Int
noncomputable def kK (k:Int×Str):List Key:=[.inl k.1,.inr k.2]
theorem kK_inj {a b:Int×Str}:kK a=kK b↔a=b:=by
 constructor
 · intro h
   unfold kK at h
   injection h with h1 h2
   injection h2 with h2 h3
   injection h1 with h1
   injection h2 with h2
   exact Prod.ext h1 h2
 · rintro rfl; rfl
noncomputable def ksE (E:List Ent):List (List Key):=E.map fun e=>kK e.1
noncomputable def vsE (E:List Ent):List T:=E.map fun e=>.int e.2
noncomputable def tri (e:Ent):T:=.tup [.int e.1.1,.str e.1.2,.int e.2]
structure Good (E:List Ent) (n:Nat):Prop where
 nd:(E.map (·.1)).Nodup
 len:E.length≤n
 pos:∀ e∈E,0≤e.1.1
noncomputable def hasE (E:List Ent) (k:Int×Str):Bool:=E.any fun e=>decide (e.1=k)
noncomputable def putE (E:List Ent) (k:Int×Str) (v:Int):List Ent:=if hasE E k=true then E.map (fun e=>if e.1=k then (e.1,v) else e) else E ++ [(k,v)]
theorem has_ks (E:List Ent) (k:Int×Str):gHas (ksE E) (kK k)=hasE E k:=by
 unfold gHas ksE hasE
 rw [List.any_map]
 congr 1
 funext e
 exact decide_eq_decide.mpr kK_inj
theorem ks_put (E:List Ent) (k:Int×Str) (v:Int):gKs (ksE E) (kK k)=ksE (putE E k v):=by
 unfold gKs putE
 rw [has_ks]
 by_cases h:hasE E k=true
 · rw [if_pos h,if_pos h]
   unfold ksE
   rw [List.map_map]
   refine List.map_congr_left fun e _=>?_
   show kK e.1=kK (if e.1=k then (e.1,v) else e).1
   split <;> rfl
 · rw [if_neg h,if_neg h]
   unfold ksE
   rw [List.map_append]; rfl
theorem vs_put (E:List Ent) (k:Int×Str) (v:Int):gVs (ksE E) (vsE E) (kK k) (.int v)=vsE (putE E k v):=by
 unfold gVs putE
 rw [has_ks]
 by_cases h:hasE E k=true
 · rw [if_pos h,if_pos h]
   clear h
   unfold ksE vsE
   induction E with
   | nil=>rfl
   | cons e E ih =>
     simp only [List.map_cons,List.zipWith_cons_cons]
     rw [ih]
     congr 1
     by_cases z:e.1=k
     · rw [if_pos z,if_pos (kK_inj.mpr z)]
     · rw [if_neg z,if_neg (fun q=>z (kK_inj.mp q))]
 · rw [if_neg h,if_neg h]
   unfold vsE
   rw [List.map_append]; rfl
theorem Good.put {E:List Ent} {n:Nat} (g:Good E n) {k:Int×Str} {v:Int} (hk:0≤k.1):Good (putE E k v) (n+1):=by
 unfold putE
 by_cases h:hasE E k=true
 · rw [if_pos h]
   have e:∀ F:List Ent,(F.map (fun e=>if e.1=k then (e.1,v) else e)).map (·.1)=F.map (·.1):=fun F=>by
    rw [List.map_map]
    refine List.map_congr_left fun e _=>?_
    show (if e.1=k then (e.1,v) else e).1=e.1
    split <;> rfl
   refine ⟨by rw [e]; exact g.nd,by rw [List.length_map]; have:=g.len; omega,fun x hx=>?_⟩
   obtain ⟨y,hy,rfl⟩:=List.mem_map.mp hx
   have:=g.pos y hy
   split <;> exact this
 · rw [if_neg h]
   refine ⟨?_,by have:=g.len; rw [List.length_append,List.length_singleton]; omega,fun x hx=>?_⟩
   · rw [List.map_append,List.nodup_append]
     refine ⟨g.nd,by simp,fun a ha b hb e=>?_⟩
     have hb:b=k:=by simpa using hb
     subst e
     subst hb
     obtain ⟨y,hy,e⟩:=List.mem_map.mp ha
     exact h (List.any_eq_true.mpr ⟨y,hy,decide_eq_true e⟩)
   · rcases List.mem_append.mp hx with z | z
     · exact g.pos x z
     · rw [List.mem_singleton.mp z]; exact hk
noncomputable def stE (p:Int×Str→Bool) (b:Int) (e:Ent):Int:=if p e.1=true then bitOr b e.2 else b
noncomputable def orE (p:Int×Str→Bool) (E:List Ent):Int:=E.foldl (stE p) 0
theorem ib_zero (k:Nat):ib 0 k=false:=by
 have:ib ((0:Nat):Int) k=(0:Nat).testBit k:=ib_nat 0 k
 rw [Nat.zero_testBit] at this
 exact this
theorem ib_orE (p:Int×Str→Bool) (k:Nat):∀ (E:List Ent) (b:Int),ib (E.foldl (stE p) b) k=(ib b k || E.any fun e=>p e.1 && ib e.2 k)
 | [],b=>by simp
 | e :: E,b=>by
   rw [List.foldl_cons,ib_orE p k E,List.any_cons]
   unfold stE
   cases p e.1 with
   | true=>rw [if_pos rfl,ib_or,Bool.true_and,Bool.or_assoc]
   | false=>rw [if_neg Bool.false_ne_true,Bool.false_and,Bool.false_or]
theorem or_perm {p:Int×Str→Bool} {E F:List Ent} (h:E.Perm F):orE p E=orE p F:=by
 refine ib_ext fun k=>?_
 unfold orE
 rw [ib_orE,ib_orE]
 congr 1
 rw [Bool.eq_iff_iff,List.any_eq_true,List.any_eq_true]
 exact ⟨fun ⟨x,hx,e⟩=>⟨x,h.mem_iff.mp hx,e⟩,fun ⟨x,hx,e⟩=>⟨x,h.mem_iff.mpr hx,e⟩⟩
theorem or_take {p:Int×Str→Bool} {E:List Ent} {i:Nat} {e:Ent} (h:E[i]?=some e):orE p (E.take (i+1))=stE p (orE p (E.take i)) e:=by
 unfold orE
 rw [List.take_add_one,h,List.foldl_append]; rfl
theorem get_of {E:List Ent} (nd:(E.map (·.1)).Nodup) {e:Ent} (h:e∈E):gGet (ksE E) (vsE E) (kK e.1)=some (.int e.2):=by
 induction E with
 | nil=>cases h
 | cons x E ih =>
   show (if kK x.1=kK e.1 then some (T.int x.2) else gGet (ksE E) (vsE E) (kK e.1))=_
   rw [List.map_cons,List.nodup_cons] at nd
   rcases List.mem_cons.mp h with rfl | h
   · rw [if_pos rfl]
   · rw [if_neg (fun z=>nd.1 (by rw [kK_inj.mp z]; exact List.mem_map_of_mem h)),ih nd.2 h]
theorem get_or {E:List Ent} (nd:(E.map (·.1)).Nodup) (k:Int×Str):(gGet (ksE E) (vsE E) (kK k)).getD (.int 0) = .int (orE (fun x=>decide (x=k)) E):=by
 have key:∀ (E:List Ent),(E.map (·.1)).Nodup→(gGet (ksE E) (vsE E) (kK k)).getD (.int 0) = .int (orE (fun x=>decide (x=k)) E):=by
  intro E
  induction E with
  | nil=>intro _; rfl
  | cons x E ih =>
    intro nd
    rw [List.map_cons,List.nodup_cons] at nd
    show (if kK x.1=kK k then some (T.int x.2) else gGet (ksE E) (vsE E) (kK k)).getD (.int 0)=_
    by_cases z:x.1=k
    · rw [if_pos (kK_inj.mpr z)]
      show T.int x.2=_
      congr 1
      refine ib_ext fun j=>?_
      unfold orE
      rw [ib_orE,ib_zero,Bool.false_or,List.any_cons,decide_eq_true z,Bool.true_and]
      have:(E.any fun e=>decide (e.1=k) && ib e.2 j)=false:=by
       rw [List.any_eq_false]
       intro e he hh
       rw [Bool.and_eq_true,decide_eq_true_eq] at hh
       exact nd.1 (by rw [z,← hh.1]; exact List.mem_map_of_mem he)
      rw [this,Bool.or_false]
    · rw [if_neg (fun q=>z (kK_inj.mp q)),ih nd.2]
      congr 1
      show _=(x :: E).foldl (stE _) 0
      rw [List.foldl_cons]
      unfold stE
      rw [if_neg (by simp [z])]; rfl
 exact key E nd
end K20
namespace VT
open PySem PySem.Spec PyProof.Rows L2
section
variable {X:Cx} {Z:Zc} {o e:Expr} {fo fe:FE} {apos cpos:Pos}
end
end VT
namespace VT
open PySem PySem.Spec PyProof.Rows L2
section
variable {X:Cx} {Z:Zc} {o e:Expr} {fo fe:FE} {apos cpos:Pos}
end
end VT
namespace VT
open PySem PySem.Spec PyProof.Rows L2
theorem wComp_mapL {α:Type} {f u:α→T} {h:FG} {fe:FE} {ρ:En}:∀ {xs:List α} {Q:List T→Prop},(∀ x∈xs,∀ r:T→Prop,r (u x)→h (f x) ρ fun ρ2=>fe ρ2 r)→Q (xs.map u)→wComp h fYes fe ρ (xs.map f) Q
 | [],Q,_,hq=>hq
 | x :: xs,Q,step,hq=>by
   simp only [List.map_cons,wComp]
   exact step x List.mem_cons_self (fun y=>wComp h fYes fe ρ (xs.map f) fun us=>Q (y :: us)) (wComp_mapL (Q:=fun us=>Q (u x :: us)) (fun y hy=>step y (List.mem_cons_of_mem _ hy)) hq)
theorem wComp_range {lo:Int} {n:Nat} {u:Nat→T} {h:FG} {fe:FE} {ρ:En} {Q:List T→Prop} (step:∀ i < n,∀ r:T→Prop,r (u i)→h (.int (lo+(i:Int))) ρ fun ρ2=>fe ρ2 r) (hq:Q ((List.range n).map u)):wComp h fYes fe ρ (rangeT lo n) Q :=
 wComp_mapL (f:=fun i:Nat=>T.int (lo+(i:Int))) (u:=u) (fun i hi=>step i (List.mem_range.mp hi)) hq
theorem wComp_pr {h:FG} {fe:FE} {ρ:En} {Q:List T→Prop} {Pd:T→Prop}:∀ {ts:List T},(∀ t∈ts,∀ r:T→Prop,(∀ x,Pd x→r x)→h t ρ fun ρ2=>fe ρ2 r)→(∀ us:List T,us.length=ts.length→(∀ x∈us,Pd x)→Q us)→wComp h fYes fe ρ ts Q
 | [],_,hq=>hq [] rfl (fun _ z=>nomatch z)
 | t :: ts,step,hq=>by
   simp only [wComp]
   have:=step t List.mem_cons_self (fun u=>wComp h fYes fe ρ ts fun us=>Q (u :: us)) fun x hx=>wComp_pr (fun t ht=>step t (List.mem_cons_of_mem _ ht)) fun us hl ha=>hq (x :: us) (by simp [hl]) fun y hy=>by
    rcases List.mem_cons.mp hy with z | z
    · rw [z]; exact hx
    · exact ha y z
   exact this
theorem wComp_filL {α:Type} {f u:α→T} {p:α→Bool} {h:FG} {fc:FB} {fe:FE} {ρ:En}:∀ {xs:List α} {Q:List T→Prop},(∀ x∈xs,∀ r s:Prop,(if p x=true then ∀ k:T→Prop,(k (u x)→r)→r else s)→True)→(∀ x∈xs,∀ (k:T→Prop) (s:Prop),(if p x=true then k (u x) else s)→h (f x) ρ fun ρ2=>fc ρ2 fun b=>if b=true then fe ρ2 k else s)→Q ((xs.filter p).map u)→wComp h fc fe ρ (xs.map f) Q
 | [],Q,_,_,hq=>hq
 | x :: xs,Q,t0,step,hq=>by
   simp only [List.map_cons,wComp]
   refine step x List.mem_cons_self _ _ ?_
   by_cases hp:p x=true
   · rw [if_pos hp]
     rw [List.filter_cons_of_pos hp] at hq
     exact wComp_filL (Q:=fun us=>Q (u x :: us)) (fun _ _ _ _ _=>trivial) (fun y hy=>step y (List.mem_cons_of_mem _ hy)) hq
   · rw [if_neg hp]
     rw [List.filter_cons_of_neg hp] at hq
     exact wComp_filL (fun _ _ _ _ _=>trivial) (fun y hy=>step y (List.mem_cons_of_mem _ hy)) hq
end VT
namespace VT
open PySem PySem.Spec PyProof.Rows L2
noncomputable def gNever:FS:=fun _ _=>False
theorem vss_never {X:Cx} {Z:Zc} {ss:List Stmt}:VSs X Z ss gNever:=.mk fun tm=>fun pins s σ H D I h=>by
 obtain ⟨_,_,_,_,q,_⟩:=h
 exact q.elim
end VT
namespace K21V
open PySem L2 VT Gen K5 Lay BS K20
open PySem.Builtin (bitOr)
noncomputable def top (i:Nat):Stmt:=PySem.Challenge.pw_slicewise_k21_names_put_about.main.body.getD i (.Pass ⟨0,0,0,0⟩)
noncomputable abbrev s_first_defs:Stmt:=top 12
noncomputable abbrev s_shape:Stmt:=top 13
noncomputable abbrev s_makers:Stmt:=top 18
noncomputable abbrev s_holds:Stmt:=top 19
noncomputable abbrev s_list_of:Stmt:=top 20
noncomputable abbrev s_grown:Stmt:=top 21
noncomputable abbrev s_wants:Stmt:=top 22
noncomputable abbrev s_cell_at:Stmt:=top 26
noncomputable abbrev s_words:Stmt:=top 27
noncomputable abbrev s_same:Stmt:=top 28
noncomputable abbrev s_row:Stmt:=top 29
noncomputable abbrev s_program:Stmt:=top 30
noncomputable abbrev s_due:Stmt:=top 31
noncomputable abbrev s_law:Stmt:=top 32
noncomputable abbrev s_Sets:Stmt:=inClass (top 17) 0
structure MgP (mg:Str→Option Value):Prop where
 enumerate:mg "enumerate" = none
 sorted:mg "sorted" = none
structure StC (K:PySem.W.Frag) (C:Addr):Prop where
 cl:Cls K C
 n_names:NoAttr K C "names"
 n_cells:NoAttr K C "cells"
theorem le8 {n:Nat} (h:n≤1000):n≤sizeLine:=Gen.small h
theorem b_sorted:bootBuiltins "sorted" = some (.builtin "sorted"):=by decide +kernel
noncomputable def getE (E:List Ent) (k:Int×Str):Int:=match E with
 | []=>0
 | e :: E=>if e.1=k then e.2 else getE E k
theorem get_E (k:Int×Str):∀ E:List Ent,(gGet (ksE E) (vsE E) (kK k)).getD (.int 0) = .int (getE E k)
 | []=>rfl
 | e :: E=>by
   show (if kK e.1=kK k then some (T.int e.2) else gGet (ksE E) (vsE E) (kK k)).getD (.int 0) = .int (if e.1=k then e.2 else getE E k)
   by_cases z:e.1=k
   · rw [if_pos z,if_pos (kK_inj.mpr z)]; rfl
   · rw [if_neg z,if_neg (fun q=>z (kK_inj.mp q))]; exact get_E k E
theorem get_num (h n:Int):∀ E:List Ent,gGet (ksE E) (vsE E) [.inl h,.inl n]=none
 | []=>rfl
 | e :: E=>by
   show (if kK e.1=[.inl h,.inl n] then some (T.int e.2) else gGet (ksE E) (vsE E) [.inl h,.inl n])=none
   rw [if_neg (fun z=>by unfold kK at z; injection z with _ z; injection z with z _; cases z)]
   exact get_num h n E
theorem get_put (k:Int×Str) (v:Int):∀ E:List Ent,gGet (ksE (putE E k v)) (vsE (putE E k v)) (kK k)=some (.int v):=by
 intro E
 unfold putE
 by_cases h:hasE E k=true
 · rw [if_pos h]
   have key:∀ E:List Ent,hasE E k=true→gGet (ksE (E.map fun e=>if e.1=k then (e.1,v) else e)) (vsE (E.map fun e=>if e.1=k then (e.1,v) else e)) (kK k)=some (.int v):=by
    intro E
    induction E with
    | nil=>intro z; cases z
    | cons e E ih =>
      intro z
      show (if kK (if e.1=k then (e.1,v) else e).1=kK k then some (T.int (if e.1=k then (e.1,v) else e).2) else _)=_
      by_cases q:e.1=k
      · rw [if_pos q,if_pos (kK_inj.mpr q)]
      · rw [if_neg q,if_neg (fun x=>q (kK_inj.mp x))]
        refine ih ?_
        unfold hasE at z ⊢
        rw [List.any_cons,decide_eq_false q,Bool.false_or] at z
        exact z
   exact key E h
 · rw [if_neg h]
   have key:∀ E:List Ent,¬ hasE E k=true→gGet (ksE (E ++ [(k,v)])) (vsE (E ++ [(k,v)])) (kK k)=some (.int v):=by
    intro E
    induction E with
    | nil=>intro _; show (if kK k=kK k then some (T.int v) else none)=_; rw [if_pos rfl]
    | cons e E ih =>
      intro z
      unfold hasE at z
      rw [List.any_cons] at z
      have q:¬ e.1=k:=fun q=>z (by rw [decide_eq_true q]; rfl)
      show (if kK e.1=kK k then _ else gGet (ksE (E ++ [(k,v)])) (vsE (E ++ [(k,v)])) (kK k))=_
      rw [if_neg (fun x=>q (kK_inj.mp x))]
      exact ih fun x=>z (by unfold hasE at x; rw [x]; simp)
   exact key E h
noncomputable def okR:Rw→Bool
 | .get _ _ _=>false
 | .set _ _ _=>false
 | .call _ _ _=>false
 | _=>true
noncomputable def getO (E:List Ent) (h:Nat):Opd→Int
 | .nm y=>getE E ((h:Int),y)
 | .nu _=>0
noncomputable def wOf (E:List Ent) (i h:Nat):Rw→Option ((Int×Str)×Int)
 | .new x=>some (((h:Int),x),1 * 2 ^ ((i:Int)).toNat)
 | .put x o=>some (((h:Int),x),getO E h o)
 | _=>none
noncomputable def wantL (a1:Addr) (E:List Ent):Option ((Int×Str)×Int)→List T
 | some (k,w)=>[.tup [.pin a1 (.dt (ksE E) (vsE E)),.kt (kK k),.int w]]
 | none=>[]
noncomputable def gSets (C:Addr) (ts:List T) (q:T→Prop):Prop:=∃ t1 t2,ts=[t1,t2]∧q (.ins C fN [t1,t2])
noncomputable def gWants (C CS:Addr) (ts:List T) (q:Rt→Prop):Prop:=∃ (rs:List Rw) (a1 a2:Addr) (E:List Ent) (k2:List (List Key)) (t2:List T) (i:Nat) (r:Rw) (h:Nat),ts=[layT C rs,.ins CS fN [.pin a1 (.dt (ksE E) (vsE E)),.pin a2 (.dt k2 t2)],.int (i:Int)]∧rs[i]?=some r∧okR r=true∧hmF (kdR rs) i=some h∧i≤1000∧q (.fr (.lst (wantL a1 E (wOf E i h r))))
noncomputable def trs (E:List Ent):List TS.Tr:=(E.filter fun e=>!decide (e.2=0)).map fun e=>(e.1.1,e.1.2,e.2)
noncomputable def gListOf (ts:List T) (q:Rt→Prop):Prop:=∃ (E:List Ent) (o:Obj),ts=[.df o (ksE E) (vsE E)]∧Good E 63∧∀ bs:List TS.Tr,bs.Perm (trs E)→bs.Pairwise (fun a b=>TS.ltTr a b=true)→q (.fr (.lst (bs.map TS.tT)))
theorem trs_nd {E:List Ent} {n:Nat} (g:Good E n):(trs E).Nodup:=by
 unfold trs List.Nodup
 rw [List.pairwise_map]
 have h:=g.nd
 unfold List.Nodup at h
 rw [List.pairwise_map] at h
 refine (h.sublist List.filter_sublist).imp fun {a b} q z=>q ?_
 injection z with z1 z2
 injection z2 with z2 _
 exact Prod.ext z1 z2
section
variable {P:Program} {w:World} {K:PySem.W.Frag} {mg:Str→Option Value} {base:Heap} {cLayout cSets:Addr}
noncomputable abbrev n_Sets:List Str:=["self","names","cells"]
theorem sc_Sets:FnScope n_Sets ["self","names","cells"] (defScope s_Sets):=⟨rfl,rfl,rfl,by decide +kernel,rfl,by decide +kernel,by decide +kernel⟩
theorem ok_Sets {f:Addr} {fd:FuncData} (D:Dc K mg "Sets" "Sets.__init__" s_Sets ["self","names","cells"] cSets f fd) (M:StC K cSets):CalC P w K mg base "Sets" cSets ["self","names","cells"] 1 2 (gSets cSets):=by
 refine D.cal (fnI D.F sc_Sets rfl fun cdv A outer s H E as Ox hr us q hl hG=>?_)
 have nd:=sc_Sets.nd
 have hu:=Room.u101 hr
 have L_Sets:=M
 refine ⟨_,(vss_cons (vs_fld 0 L_Sets.cl L_Sets.n_names (ve_var 1))
  (vss_one (vs_fld 0 L_Sets.cl L_Sets.n_cells (ve_var 2)))),?_⟩
 obtain ⟨t1,t2,rfl,hq⟩:=hG
 exact ⟨rfl,by show 0 < 1000; decide,rfl,by show 1 < 1000; decide,hq⟩
noncomputable abbrev n_list_of:List Str:=["held"]
theorem sc_list_of:FnScope n_list_of ["held"] (defScope s_list_of):=⟨rfl,rfl,rfl,by decide +kernel,rfl,by decide +kernel,by decide +kernel⟩
theorem nd_list_of_c0:(n_list_of ++ (["key","told"]:List Str)).Nodup:=by decide +kernel
theorem ok_list_of {f:Addr} {fd:FuncData} (D:Df K mg "list_of" s_list_of ["held"] f fd) (M:MgP mg):Cal P w K mg base "list_of" ["held"] 1 (spP K 1 gListOf):=by
 refine D.cal (fnP D.F sc_list_of rfl fun cdv A outer s H E Ox hr ts q hG=>?_)
 have nd:=sc_list_of.nd
 have hu:=Room.u101 hr
 have np:∀ {i:Nat},NotPar ⟨H,[],Ox⟩ i:=np0
 have npf:∀ {is:List Nat},∀ i∈is,NotPar ⟨H,[],Ox⟩ i:=fun i _=>np0
 refine ⟨_,(vss_one (vs_ret (VP.vx (vp_callB TS.call_sorted_triR TS.callT_sortR (by rfl) M.sorted b_sorted (var_cons (VP.vr (vp_comp (ts:=["key","told"]) rfl (by rfl) (vi_items (ve_var 0)) (fun _ _ _ _ _ _=>(vg_tup (n:=2) rfl (vgs_cons (vg_name (i:=1) nd_list_of_c0 rfl (Or.inl rfl) np) (vgs_cons (vg_name (i:=2) nd_list_of_c0 rfl (Or.inl rfl) np) vgs_nil)))) (fun _ _ _ _ _ _=>(vcs_one (vc_ne hu (vr_var 2) (VP.vr vp_int)))) (fun _ _ _ _ _ _=>(VP.ve (vp_tup (va_cons (VP.ve (vp_ix (vr_var 1) (VP.vr vp_int))) (va_cons (VP.ve (vp_ix (vr_var 1) (VP.vr vp_int))) (va_cons (ve_var 2) va_nil)))))))) var_nil))))),fun _=>?_⟩
 obtain ⟨E,o,rfl,g,hq⟩:=hG
 have hlen:=g.len
 have ez:((ksE E).zip (vsE E)).map prT=E.map fun e=>.tup [ktT (kK e.1),.int e.2]:=by
  unfold ksE vsE
  rw [List.zip_map',List.map_map]; rfl
 refine ⟨rfl,by unfold ksE vsE; rw [List.length_map,List.length_map],?_⟩
 show (((ksE E).zip (vsE E)).map prT).length≤sizeLine∧wComp _ _ _ _ (((ksE E).zip (vsE E)).map prT) _
 rw [ez]
 refine ⟨by rw [List.length_map]; exact le8 (by omega),?_⟩
 refine wComp_filL (u:=fun e:Ent=>TS.tT (e.1.1,e.1.2,e.2)) (p:=fun e=>!decide (e.2=0)) (fun _ _ _ _ _=>trivial) (fun e he k s hk=>?_) ?_
 · refine ⟨rfl,rfl,?_⟩
   show if (!decide (e.2=0))=true then _ else _
   by_cases z:(!decide (e.2=0))=true
   · rw [if_pos z] at hk ⊢
     exact ⟨_,atI_nat (j:=0) rfl,_,atI_nat (j:=1) rfl,le8 (by simp),hk⟩
   · rw [if_neg z] at hk ⊢
     exact hk
 · show TS.pSortR [.lst ((E.filter fun e=>!decide (e.2=0)).map fun e:Ent=>TS.tT (e.1.1,e.1.2,e.2))] _
   refine ⟨trs E,by unfold trs; rw [List.map_map]; rfl,?_,trs_nd g,hq⟩
   unfold trs
   rw [List.length_map]
   have:=List.length_filter_le (fun e:Ent=>!decide (e.2=0)) E
   omega
noncomputable abbrev n_wants:List Str:=["layout","sets","place","row","home","names","given"]
theorem sc_wants:FnScope n_wants ["layout","sets","place"] (defScope s_wants):=⟨rfl,rfl,rfl,by decide +kernel,rfl,by decide +kernel,by decide +kernel⟩
theorem ok_wants {f:Addr} {fd:FuncData} (D:Df K mg "wants" s_wants ["layout","sets","place"] f fd) (M:LyC K cLayout) (M1:StC K cSets):Cal P w K mg base "wants" ["layout","sets","place"] 4 (spP K 3 (gWants cLayout cSets)):=by
 refine D.cal (fnP D.F sc_wants rfl fun cdv A outer s H E Ox hr ts q hG=>?_)
 have nd:=sc_wants.nd
 have hu:=Room.u101 hr
 have np:∀ {i:Nat},NotPar ⟨H,[],Ox⟩ i:=np0
 have npf:∀ {is:List Nat},∀ i∈is,NotPar ⟨H,[],Ox⟩ i:=fun i _=>np0
 have L_Layout:=M
 have L_Sets:=M1
 have hu1:=u1_of hu
 refine ⟨_,(vss_cons (vs_set (i:=3) nd rfl (Or.inr rfl) (VP.vx (vp_ix (VP.vr (vp_fld L_Layout.cl L_Layout.n_program (vr_var 0))) (vr_var 2))) np)
   (vss_cons (vs_set (i:=4) nd rfl (Or.inl rfl) (VP.vx (vp_ix (VP.vr (vp_fld L_Layout.cl L_Layout.n_homes (vr_var 0))) (vr_var 2))) np)
   (vss_cons (vs_set (i:=5) nd rfl (Or.inl rfl) (VP.vx (vp_fld L_Sets.cl L_Sets.n_names (vr_var 1))) np)
   (vss_cons (vs_if (vc_eq hu (VP.vr (vp_ix (vr_var 3) (VP.vr vp_int))) (VP.vr vp_str))
     (vss_one (vs_ret (VP.vx (vp_lst (va_cons (VP.ve (vp_tup (va_cons (ve_var 5) (va_cons (VP.ve (vp_tupK (va_cons (ve_var 4) (va_cons (VP.ve (vp_ix (vr_var 3) (VP.vr vp_int))) va_nil)))) (va_cons (VP.ve (vp_shl (VP.vr vp_int) (vr_var 2))) va_nil))))) va_nil)))))
     vss_nil)
   (vss_cons (vs_if (vc_eq hu (VP.vr (vp_ix (vr_var 3) (VP.vr vp_int))) (VP.vr vp_str))
     (vss_one (vs_ret (VP.vx (vp_lst (va_cons (VP.ve (vp_tup (va_cons (ve_var 5) (va_cons (VP.ve (vp_tupK (va_cons (ve_var 4) (va_cons (VP.ve (vp_ix (vr_var 3) (VP.vr vp_int))) va_nil)))) (va_cons (VP.ve (vp_dgV hu1 (vr_var 5) (VP.ve (vp_tupK (va_cons (ve_var 4) (va_cons (VP.ve (vp_ix (vr_var 3) (VP.vr vp_int))) va_nil)))) (VP.ve vp_int) ⟨rfl,rfl,rfl,rfl⟩)) va_nil))))) va_nil)))))
     vss_nil)
   (vss_cons (vs_if (vc_eq hu (VP.vr (vp_ix (vr_var 3) (VP.vr vp_int))) (VP.vr vp_str))
     vss_never
     vss_nil)
   (vss_cons (vs_if (vc_eq hu (VP.vr (vp_ix (vr_var 3) (VP.vr vp_int))) (VP.vr vp_str))
     vss_never
     vss_nil)
   (vss_cons (vs_if (vc_eq hu (VP.vr (vp_ix (vr_var 3) (VP.vr vp_int))) (VP.vr vp_str))
     vss_never
     vss_nil)
   (vss_one (vs_ret (VP.vx (vp_lst va_nil)))))))))))),fun _=>?_⟩
 obtain ⟨rs,a1,a2,E,k2,t2,i,r,h,rfl,hr',hok,hh,hi,hq⟩:=hG
 have hin:i < rs.length:=(List.getElem?_eq_some_iff.mp hr').1
 refine ⟨rfl,_,rfl,_,row_at hr',rfl,_,rfl,.int (h:Int),(hom_at hin).trans (by rw [hh]; rfl),rfl,_,rfl,?_⟩
 have sh:(0:Int)≤(i:Int)∧(i:Int)≤1000000∧(1:Int).natAbs < 2 ^ 64:=⟨by omega,by omega,by decide⟩
 cases r with
 | new x=>exact ⟨_,atI_nat (j:=0) rfl,_,atI_nat (j:=1) rfl,le8 (by simp),sh,le8 (by simp),le8 (by simp),hq⟩
 | put x o =>
   refine ⟨_,atI_nat (j:=0) rfl,_,atI_nat (j:=0) rfl,_,atI_nat (j:=1) rfl,le8 (by simp),_,atI_nat (j:=2) rfl,?_⟩
   cases o with
   | nm y =>
     refine ⟨le8 (by simp),le8 (by simp),le8 (by simp),?_⟩
     show q (.fr (.lst [.tup [.pin a1 (.dt (ksE E) (vsE E)),.kt (kK ((h:Int),x)),(gGet (ksE E) (vsE E) (kK ((h:Int),y))).getD (.int 0)]]))
     rw [get_E]; exact hq
   | nu n =>
     refine ⟨le8 (by simp),le8 (by simp),le8 (by simp),?_⟩
     show q (.fr (.lst [.tup [.pin a1 (.dt (ksE E) (vsE E)),.kt (kK ((h:Int),x)),(gGet (ksE E) (vsE E) [.inl (h:Int),.inl n]).getD (.int 0)]]))
     rw [get_num]; exact hq
 | get x y k=>cases hok
 | set y k a=>cases hok
 | call x g as=>cases hok
 | df g ps=>exact ⟨_,atI_nat (j:=0) rfl,_,atI_nat (j:=0) rfl,_,atI_nat (j:=0) rfl,_,atI_nat (j:=0) rfl,_,atI_nat (j:=0) rfl,Nat.zero_le _,hq⟩
 | give a=>exact ⟨_,atI_nat (j:=0) rfl,_,atI_nat (j:=0) rfl,_,atI_nat (j:=0) rfl,_,atI_nat (j:=0) rfl,_,atI_nat (j:=0) rfl,Nat.zero_le _,hq⟩
 | dow x a op b=>exact ⟨_,atI_nat (j:=0) rfl,_,atI_nat (j:=0) rfl,_,atI_nat (j:=0) rfl,_,atI_nat (j:=0) rfl,_,atI_nat (j:=0) rfl,Nat.zero_le _,hq⟩
 | fail x=>exact ⟨_,atI_nat (j:=0) rfl,_,atI_nat (j:=0) rfl,_,atI_nat (j:=0) rfl,_,atI_nat (j:=0) rfl,_,atI_nat (j:=0) rfl,Nat.zero_le _,hq⟩
 | ifr a=>exact ⟨_,atI_nat (j:=0) rfl,_,atI_nat (j:=0) rfl,_,atI_nat (j:=0) rfl,_,atI_nat (j:=0) rfl,_,atI_nat (j:=0) rfl,Nat.zero_le _,hq⟩
 | els=>exact ⟨_,atI_nat (j:=0) rfl,_,atI_nat (j:=0) rfl,_,atI_nat (j:=0) rfl,_,atI_nat (j:=0) rfl,_,atI_nat (j:=0) rfl,Nat.zero_le _,hq⟩
 | whl a=>exact ⟨_,atI_nat (j:=0) rfl,_,atI_nat (j:=0) rfl,_,atI_nat (j:=0) rfl,_,atI_nat (j:=0) rfl,_,atI_nat (j:=0) rfl,Nat.zero_le _,hq⟩
 | fin=>exact ⟨_,atI_nat (j:=0) rfl,_,atI_nat (j:=0) rfl,_,atI_nat (j:=0) rfl,_,atI_nat (j:=0) rfl,_,atI_nat (j:=0) rfl,Nat.zero_le _,hq⟩
 | skip=>exact ⟨_,atI_nat (j:=0) rfl,_,atI_nat (j:=0) rfl,_,atI_nat (j:=0) rfl,_,atI_nat (j:=0) rfl,_,atI_nat (j:=0) rfl,Nat.zero_le _,hq⟩
end
end K21V
namespace K21V
open PySem L2 VT Gen K5 Lay BS K20
open PySem.Builtin (bitOr)
noncomputable def sE (E:List Ent):S2:=⟨ksE E,vsE E,[],[]⟩
noncomputable def wAt (rs:List Rw) (E:List Ent) (i:Nat):Option ((Int×Str)×Int):=match rs[i]?,hmF (kdR rs) i with
 | some r,some h=>wOf E i h r
 | _,_=>none
noncomputable def stp (rs:List Rw) (p:List Ent×Bool) (i:Nat):List Ent×Bool:=match wAt rs p.1 i with
 | some (k,w)=>(putE p.1 k (bitOr (getE p.1 k) w),p.2 || !decide (bitOr (getE p.1 k) w=getE p.1 k))
 | none=>p
noncomputable def growN (rs:List Rw) (E:List Ent) (n:Nat):List Ent×Bool:=(List.range n).foldl (stp rs) (E,false)
theorem grow_succ (rs:List Rw) (E:List Ent) (n:Nat):growN rs E (n+1)=stp rs (growN rs E n) n:=by
 unfold growN
 rw [List.range_succ,List.foldl_append]; rfl
theorem put_len (E:List Ent) (k:Int×Str) (v:Int):(putE E k v).length≤E.length+1:=by
 unfold putE
 split
 · rw [List.length_map]; omega
 · rw [List.length_append]; simp
theorem grow_len (rs:List Rw) (E:List Ent):∀ n,(growN rs E n).1.length≤E.length+n
 | 0=>Nat.le_refl _
 | n+1=>by
   have ih:=grow_len rs E n
   rw [grow_succ]
   unfold stp
   split
   · rename_i k w _
     have:=put_len (growN rs E n).1 k (bitOr (getE (growN rs E n).1 k) w)
     show (putE _ _ _).length≤_
     omega
   · omega
noncomputable def gGrown (C:Addr) (l:T) (s:S2) (q:S2→T→Prop):Prop:=∃ (rs:List Rw) (E:List Ent),l=layT C rs∧s=sE E∧(∀ r∈rs,okR r=true)∧rs.length≤100∧E.length≤100000∧q (sE (growN rs E rs.length).1) (.bl (growN rs E rs.length).2)
noncomputable abbrev rho (M:MG) (C:Addr) (rs:List Rw) (b:Bool) (b3 b4 b5 b6 b7 b8:Option T):En:=[some (layT C rs,false),some (.ob M.a,false),some (.bl b,false),vwO b3,vwO b4,vwO b5,vwO b6,vwO b7,vwO b8]
theorem enum_hom (rs:List Rw) (i:Nat) {t:T} (h:(enumT (homT rs))[i]?=some t):i < rs.length∧t = .tup [.int (i:Int),oT (hmF (kdR rs) i)]:=by
 unfold enumT homT at h
 rw [List.getElem?_mapIdx,List.getElem?_map] at h
 by_cases hi:i < rs.length
 · rw [List.getElem?_range hi] at h
   cases h
   exact ⟨hi,rfl⟩
 · rw [List.getElem?_eq_none (by rw [List.length_range]; omega)] at h
   cases h
theorem enum_len (rs:List Rw):(enumT (homT rs)).length=rs.length:=by unfold enumT homT; simp
theorem put_sE (E:List Ent) (k:Int×Str) (v:Int):(sE E).put1 (kK k) (.int v)=sE (putE E k v):=by
 unfold S2.put1 sE
 dsimp only
 rw [ks_put E k v,vs_put]
theorem stp_none {rs:List Rw} {p:List Ent×Bool} {i:Nat} (h:wAt rs p.1 i=none):stp rs p i=p:=by unfold stp; rw [h]
theorem stp_some {rs:List Rw} {p:List Ent×Bool} {i:Nat} {k:Int×Str} {w:Int} (h:wAt rs p.1 i=some (k,w)):stp rs p i=(putE p.1 k (bitOr (getE p.1 k) w),p.2 || !decide (bitOr (getE p.1 k) w=getE p.1 k)):=by unfold stp; rw [h]
theorem set_get {M:MG} {i n m:Nat} {d:GEn} {ρ:En} {s:S2} {ks:List (List Key)} {ts:List T} {k:List Key} (h5:(ρ.map (upE M s))[n]?=some (some (.dt ks ts,false))) (h6:(ρ.map (upE M s))[m]?=some (some (.kt k,false)))
  (hq:flatI ((gGet ks ts k).getD (.int 0))∧d.nx (ρ.set i (some ((gGet ks ts k).getD (.int 0),false))) s):wSet M i (fT (fDGV (fVarR n) (fVar m) (fT (fC (.int 0))))) d ρ s:=by
 unfold wSet fT fDGV fVarR
 rw [h5]
 show fVar m _ _
 unfold fVar
 rw [h6]
 exact hq
theorem set_lack {M:MG} {i n m n2 n8:Nat} {d:GEn} {ρ:En} {s s0:S2} (es:s0=s) {ks:List (List Key)} {ts:List T} {k:List Key} {b:Bool} {v before:Int} (h2:(ρ.map (upE M s))[n2]?=some (some (.bl b,false))) (h5:(ρ.map (upE M s))[n]?=some (some (.dt ks ts,false))) (h6:(ρ.map (upE M s))[m]?=some (some (.kt k,false)))
  (h8:(ρ.map (upE M s))[n8]?=some (some (.int before,false))) (hg:gGet ks ts k=some (.int v)) (hq:flatI (.bl (b || !decide (v=before)))∧d.nx (ρ.set i (some (.bl (b || !decide (v=before)),false))) s) :
  wSet M i (fT (fOrV (fV (fVar n2)) (f2 (fT (fDixV (fVarR n) (fVar m))) (fVarR n8) pNe))) d ρ s0:=by
 rw [es]
 unfold wSet fT fOrV fV fVar
 rw [h2]
 cases b with
 | true=>exact hq
 | false =>
   show f2 _ _ _ _ _
   unfold f2 fDixV fVarR
   dsimp only
   rw [h5]
   show (match (ρ.map (upE M s))[m]? with | some (some (t,false))=>_ | _=>False)
   rw [h6]
   refine ⟨_,hg,?_⟩
   show (match (ρ.map (upE M s))[n8]? with | some (some (t,_))=>_ | _=>False)
   rw [h8]
   exact hq
theorem wIf_some {n:Nat} {g u:FG2} {d:GEn} {ρ:En} {s:S2} {t:T} (h:ρ[n]?=some (some (t,false))) (ht:isNon t=false) (hg:g d ρ s):wIf (fTst (f2 (fVarR n) (fT (fC .non)) pIsNot)) g u d ρ s:=by
 unfold wIf fTst f2 fVarR
 rw [h]
 show if (!isNon t)=true then g d ρ s else u d ρ s
 rw [ht]
 exact hg
section
variable {P:Program} {w:World} {K:PySem.W.Frag} {mg:Str→Option Value} {base:Heap} {cLayout cSets:Addr}
noncomputable abbrev n_grown:List Str:=["layout","sets","lacking","place","home","held","key","wanted","before"]
theorem sc_grown:FnScope n_grown ["layout","sets"] (defScope s_grown):=⟨rfl,rfl,rfl,by decide +kernel,rfl,by decide +kernel,by decide +kernel⟩
theorem ok_grown {f:Addr} {fd:FuncData} (D:Df K mg "grown" s_grown ["layout","sets"] f fd) (L_Layout:LyC K cLayout) (Mg:MgP mg) (C_wants:Cal P w K mg base "wants" ["layout","sets","place"] 4 (spP K 3 (gWants cLayout cSets))):Cal P w K mg base "grown" ["layout","sets"] (4+1) (spG K cSets (gGrown cLayout)):=by
 obtain ⟨f_wants,fd_wants,m_wants,k_wants,b_wants,F_wants⟩:=C_wants
 refine D.cal (fnG D.F sc_grown rfl (by decide) fun cdv A outer s H E M hC hr l s0 q hG=>?_)
 have nd:=sc_grown.nd
 have hu:=Room.u101 hr
 have hu1:=u1_of hu
 subst hC
 refine ⟨_,(gss_cons (gs_plain fun _ _=>vs_set (i:=2) nd rfl (Or.inl rfl) (VP.vx vp_bl) np0)
  (gss_cons (gs_for PassesOwn.never rfl (fun _ _=>vi_enum (by rfl) Mg.enumerate (VP.ve (vp_fld L_Layout.cl L_Layout.n_homes (vr_var 0)))) (fun _ _=>vg_tup (n:=2) rfl (vgs_cons (vg_name (i:=3) nd rfl (Or.inl rfl) np0) (vgs_cons (vg_name (i:=4) nd rfl (Or.inl rfl) np0) vgs_nil)))
    (gss_one (gs_if (fun _ _=>vc_isnot (vr_var 4) (VP.vr vp_non))
      (gss_one (gs_forU PassesOwn.never rfl (fun _ _=>VP.ve (vp_call F_wants (hr.mono (by decide)) (by rfl) m_wants k_wants b_wants (va_cons (ve_var 0) (va_cons (ve_var 1) (va_cons (ve_var 3) va_nil))))) (fun _ _=>vg_tup (n:=3) rfl (vgs_cons (vg_name (i:=5) nd rfl (Or.inl rfl) np0) (vgs_cons (vg_name (i:=6) nd rfl (Or.inl rfl) np0) (vgs_cons (vg_name (i:=7) nd rfl (Or.inl rfl) np0) vgs_nil))))
        (gss_cons (gs_set (i:=8) nd rfl (Or.inl rfl) (fun _ _=>VP.ve (vp_dgV hu1 (vr_var 5) (ve_var 6) (VP.ve vp_int) ⟨rfl,rfl,rfl,rfl⟩)))
        (gss_cons (gs_put1 5 6 hu1 (fun _ _=>VP.ve (vp_bor (vr_var 8) (vr_var 7))))
        (gss_one (gs_set (i:=2) nd rfl (Or.inl rfl) (fun _ _=>VP.ve (vp_or (VE.vp (ve_var 2)) (vp_one (vp_ne hu (VP.vr (vp_dixV hu1 (vr_var 5) (ve_var 6))) (vr_var 8)))))))))))
      gss_nil)))
  (gss_one (gs_plain fun _ _=>vs_ret (VP.vx (VE.vp (ve_var 2))))))),?_⟩
 obtain ⟨rs,E0,rfl,rfl,hok,hn,hE,hq⟩:=hG
 refine ⟨rfl,rfl,_,rfl,?_⟩
 refine ⟨fun i ρ s=>∃ b3 b4 b5 b6 b7 b8,ρ=rho M cLayout rs (growN rs E0 i).2 b3 b4 b5 b6 b7 b8∧s=sE (growN rs E0 i).1,⟨none,none,none,none,none,none,rfl,rfl⟩,?_,?_⟩
 · rintro i t ρ s ht ⟨b3,b4,b5,b6,b7,b8,rfl,rfl⟩
   obtain ⟨hi,rfl⟩:=enum_hom rs i ht
   obtain ⟨r,hr'⟩:∃ r,rs[i]?=some r:=⟨_,List.getElem?_eq_getElem hi⟩
   have gl:=grow_len rs E0 i
   have gs:=grow_succ rs E0 i
   generalize hp:growN rs E0 i=p at gl gs ⊢
   obtain ⟨E,b⟩:=p
   dsimp only at gl
   refine ⟨rfl,rfl,(by show allV [some (layT cLayout rs,false),some (.ob M.a,false),some (.bl b,false),some (.int (i:Int),false),some (oT _,false),vwO b5,vwO b6,vwO b7,vwO b8]=true; simp only [allV_s,allV_v,allV_nil]),?_⟩
   cases hh:hmF (kdR rs) i with
   | none =>
     have wn:wAt rs E i=none:=by unfold wAt; rw [hr',hh]
     rw [stp_none wn] at gs
     exact ⟨some (.int (i:Int)),some .non,b5,b6,b7,b8,by rw [gs]; rfl,by rw [gs]⟩
   | some h =>
     have wa:wAt rs E i=wOf E i h r:=by unfold wAt; rw [hr',hh]
     refine wIf_some (t:=.int (h:Int)) rfl rfl ?_
     show wForU M _ _ _ _ [some (layT cLayout rs,false),some (.ob M.a,false),some (.bl b,false),some (.int (i:Int),false),some (.int (h:Int),false),vwO b5,vwO b6,vwO b7,vwO b8] (sE E)
     unfold wForU
     show (fT (fCallV 3 (fCons (fVar 0) (fCons (fVar 1) (fCons (fVar 3) fNil))) (gWants cLayout M.C))) [some (layT cLayout rs,false),upE M (sE E) (some (.ob M.a,false)),some (.bl b,false),some (.int (i:Int),false),some (.int (h:Int),false),upE M (sE E) (vwO b5),upE M (sE E) (vwO b6),upE M (sE E) (vwO b7),upE M (sE E) (vwO b8)] _
     rw [up_a]
     refine ⟨rfl,rs,M.a1,M.a2,E,[],[],i,r,h,rfl,hr',hok r (List.mem_of_getElem? hr'),hh,by omega,?_⟩
     cases hw:wOf E i h r with
     | none =>
       rw [hw] at wa
       rw [stp_none wa] at gs
       refine ⟨[],rfl,fun _ ρ s=>ρ=rho M cLayout rs b (some (.int (i:Int))) (some (.int (h:Int))) b5 b6 b7 b8∧s=sE E,⟨rfl,rfl⟩,fun j t _ _ z=>by simp at z,?_⟩
       rintro ρ s ⟨rfl,rfl⟩
       exact ⟨_,_,_,_,_,_,by rw [gs],by rw [gs]⟩
     | some kw =>
       obtain ⟨k,w⟩:=kw
       rw [hw] at wa
       rw [stp_some wa] at gs
       dsimp only at gs
       refine ⟨[.tup [.ob M.a1,.kt (kK k),.int w]],rfl,fun j ρ s=>(j=0∧ρ=rho M cLayout rs b (some (.int (i:Int))) (some (.int (h:Int))) b5 b6 b7 b8∧s=sE E)∨(j=1∧∃ b5 b6 b7 b8,ρ=rho M cLayout rs (growN rs E0 (i+1)).2 (some (.int (i:Int))) (some (.int (h:Int))) b5 b6 b7 b8∧s=sE (growN rs E0 (i+1)).1),.inl ⟨rfl,rfl,rfl⟩,?_,?_⟩
       · rintro j t ρ s hj (⟨rfl,rfl,rfl⟩ | ⟨rfl,_⟩)
         · cases hj
           refine ⟨rfl,rfl,(by show allV [some (layT cLayout rs,false),some (.ob M.a,false),some (.bl b,false),some (.int (i:Int),false),some (.int (h:Int),false),some (.ob M.a1,false),some (.kt (kK k),false),some (.int w,false),vwO b8]=true; simp only [allV_s,allV_v,allV_nil]),?_⟩
           refine set_get (ks:=ksE E) (ts:=vsE E) (k:=kK k) (by show some (upE M (sE E) (some (.ob M.a1,false)))=_; rw [up_1]; rfl) rfl ?_
           rw [get_E]
           refine ⟨.inl ⟨_,rfl⟩,.inl ⟨_,rfl⟩,rfl,(by show (vsE E).length < 16777216; unfold vsE; rw [List.length_map]; omega),kK k,rfl,?_⟩
           refine set_lack (M:=M) (i:=2) (n:=5) (m:=6) (n2:=2) (n8:=8) (ρ:=[some (layT cLayout rs,false),some (.ob M.a,false),some (.bl b,false),some (.int (i:Int),false),some (.int (h:Int),false),some (.ob M.a1,false),some (.kt (kK k),false),some (.int w,false),some (.int (getE E k),false)]) (put_sE E k (bitOr (getE E k) w)) (ks:=ksE (putE E k (bitOr (getE E k) w))) (ts:=vsE (putE E k (bitOr (getE E k) w))) (k:=kK k) (b:=b) (v:=bitOr (getE E k) w) (before:=getE E k) rfl (by show some (upE M (sE (putE E k (bitOr (getE E k) w))) (some (.ob M.a1,false)))=_; rw [up_1]; rfl) rfl rfl (get_put k _ E) ?_
           exact ⟨.inr ⟨_,rfl⟩,.inr ⟨rfl,some (.ob M.a1),some (.kt (kK k)),some (.int w),some (.int (getE E k)),by rw [gs]; rfl,by rw [gs]⟩⟩
         · simp at hj
       · rintro ρ s (⟨z,_⟩ | ⟨_,b5',b6',b7',b8',rfl,rfl⟩)
         · cases z
         · exact ⟨_,_,_,_,_,_,rfl,rfl⟩
 · rintro ρ s ⟨b3,b4,b5,b6,b7,b8,rfl,rfl⟩
   rw [enum_len] at *
   refine ⟨(by show allV [some (layT cLayout rs,false),some (.ob M.a,false),some (.bl _,false),vwO b3,vwO b4,vwO b5,vwO b6,vwO b7,vwO b8]=true; simp only [allV_s,allV_v,allV_nil]),hq⟩
end
end K21V
namespace K21V
open PySem L2 VT Gen K5 Lay BS K20
open PySem.Builtin (bitOr)
inductive Rch (rs:List Rw):Str→Nat→Prop
 | new {x:Str} {i:Nat} (h:rs[i]?=some (.new x)):Rch rs x i
 | put {x y:Str} {i j:Nat} (h:rs[j]?=some (.put x (.nm y))) (r:Rch rs y i):Rch rs x i
theorem Rch.lt {rs:List Rw} {x:Str} {i:Nat} (h:Rch rs x i):i < rs.length:=by
 induction h with
 | new h=>exact (List.getElem?_eq_some_iff.mp h).1
 | put _ _ ih=>exact ih
structure Hyp (rs:List Rw) (ws:List Str) (h:Nat):Prop where
 nw:∀ (i:Nat) x,rs[i]?=some (.new x)→x∈ws∧hmF (kdR rs) i=some h
 pt:∀ (i:Nat) x o,rs[i]?=some (.put x o)→x∈ws∧hmF (kdR rs) i=some h
theorem getE_put (E:List Ent) (k k':Int×Str) (v:Int):getE (putE E k v) k'=if k=k' then v else getE E k':=by
 unfold putE
 by_cases h:hasE E k=true
 · rw [if_pos h]
   induction E with
   | nil=>cases h
   | cons e E ih =>
     show (if (if e.1=k then (e.1,v) else e).1=k' then (if e.1=k then (e.1,v) else e).2 else getE (E.map _) k')=if k=k' then v else if e.1=k' then e.2 else getE E k'
     by_cases q:e.1=k
     · rw [if_pos q]
       show (if e.1=k' then v else _)=_
       by_cases z:k=k'
       · rw [if_pos (q.trans z),if_pos z]
       · rw [if_neg (fun y=>z (q.symm.trans y)),if_neg z,if_neg (fun y=>z (q.symm.trans y))]
         by_cases hE:hasE E k=true
         · rw [ih hE,if_neg z]
         · clear ih
           induction E with
           | nil=>rfl
           | cons f E ih =>
             have nf:¬ f.1=k:=fun y=>hE (by unfold hasE; rw [List.any_cons,decide_eq_true y]; rfl)
             show (if (if f.1=k then (f.1,v) else f).1=k' then (if f.1=k then (f.1,v) else f).2 else getE (E.map _) k')=if f.1=k' then f.2 else getE E k'
             rw [if_neg nf]
             rw [ih (by unfold hasE; rw [List.any_cons,decide_eq_true q]; rfl) fun y=>hE (by unfold hasE at y ⊢; rw [List.any_cons,y,Bool.or_true])]
     · rw [if_neg q]
       have hE:hasE E k=true:=by
        unfold hasE at h ⊢
        rw [List.any_cons,decide_eq_false q,Bool.false_or] at h
        exact h
       rw [ih hE]
       by_cases z:e.1=k'
       · rw [if_pos z,if_pos z,if_neg (fun y=>q (z.trans y.symm))]
       · rw [if_neg z,if_neg z]
 · rw [if_neg h]
   induction E with
   | nil=>rfl
   | cons e E ih =>
     have ne:¬ e.1=k:=fun y=>h (by unfold hasE; rw [List.any_cons,decide_eq_true y]; rfl)
     show (if e.1=k' then e.2 else getE (E ++ [(k,v)]) k')=if k=k' then v else if e.1=k' then e.2 else getE E k'
     rw [ih fun y=>h (by unfold hasE at y ⊢; rw [List.any_cons,y,Bool.or_true])]
     by_cases z:e.1=k'
     · rw [if_pos z,if_neg (fun y=>ne (z.trans y.symm)),if_pos z]
     · rw [if_neg z,if_neg z]
theorem getE_or (E:List Ent) (k k':Int×Str) (w:Int):getE (putE E k (bitOr (getE E k) w)) k'=if k=k' then bitOr (getE E k') w else getE E k':=by
 rw [getE_put]
 by_cases z:k=k'
 · rw [if_pos z,if_pos z,z]
 · rw [if_neg z,if_neg z]
theorem getE_grow (E:List Ent) (k k':Int×Str) (w:Int):sub (getE E k') (getE (putE E k (bitOr (getE E k) w)) k'):=by
 rw [getE_or]
 split
 · exact sub_or_left _ _
 · exact sub_refl _
section
variable {rs:List Rw} {ws:List Str} {h:Nat}
structure IE (rs:List Rw) (ws:List Str) (h:Nat) (E:List Ent):Prop where
 snd:∀ x i,ib (getE E ((h:Int),x)) i=true→Rch rs x i
 nn:∀ x,0≤getE E ((h:Int),x)
 nd:(E.map (·.1)).Nodup
 ks:∀ e∈E,e.1.1=(h:Int)∧e.1.2∈ws
theorem ie_nil:IE rs ws h []:=⟨fun x i z=>(by rw [show getE [] _=0 from rfl,BS.ib_zero] at z; cases z),fun x=>Int.le_refl _,List.nodup_nil,fun e z=>nomatch z⟩
theorem IE.good {E:List Ent} (I:IE rs ws h E):Good E E.length:=⟨I.nd,Nat.le_refl _,fun e he=>by rw [(I.ks e he).1]; omega⟩
theorem nd_len {α:Type} [DecidableEq α]:∀ {l m:List α},l.Nodup→(∀ a∈l,a∈m)→l.length≤m.length
 | [],m,_,_=>Nat.zero_le _
 | a :: l,m,nd,s=>by
   rw [List.nodup_cons] at nd
   have ha:=s a List.mem_cons_self
   have:=nd_len (l:=l) (m:=m.erase a) nd.2 fun b hb=>(List.mem_erase_of_ne (fun e=>nd.1 (by rw [← e]; exact hb))).mpr (s b (List.mem_cons_of_mem _ hb))
   rw [List.length_erase_of_mem ha] at this
   have:=List.length_pos_of_mem ha
   rw [List.length_cons]
   omega
theorem IE.len {E:List Ent} (I:IE rs ws h E):E.length≤ws.length:=by
 have:(E.map (·.1)).length≤(ws.map fun w=>((h:Int),w)).length:=nd_len I.nd fun k hk=>by
  obtain ⟨e,he,rfl⟩:=List.mem_map.mp hk
  exact List.mem_map.mpr ⟨e.1.2,(I.ks e he).2,Prod.ext (I.ks e he).1.symm rfl⟩
 simpa using this
theorem IE.put {E:List Ent} (I:IE rs ws h E) {x:Str} {w:Int} (hx:x∈ws) (hw:0≤w) (hb:∀ i,ib w i=true→Rch rs x i):IE rs ws h (putE E ((h:Int),x) (bitOr (getE E ((h:Int),x)) w)):=by
 refine ⟨fun y i z=>?_,fun y=>?_,(I.good.put (k:=((h:Int),x)) (by show (0:Int)≤(h:Int); omega)).nd,fun e he=>?_⟩
 · rw [getE_or] at z
   split at z
   · rename_i e
     injection e with _ e
     subst e
     rw [ib_or,Bool.or_eq_true] at z
     exact z.elim (I.snd _ _) (hb _)
   · exact I.snd _ _ z
 · rw [getE_or]
   split
   · exact or_nn (I.nn y) hw
   · exact I.nn y
 · unfold putE at he
   split at he
   · obtain ⟨f,hf,rfl⟩:=List.mem_map.mp he
     have:=I.ks f hf
     split <;> exact this
   · rcases List.mem_append.mp he with z | z
     · exact I.ks e z
     · rw [List.mem_singleton.mp z]; exact ⟨rfl,hx⟩
theorem wAt_is (Y:Hyp rs ws h) {E:List Ent} {i:Nat} {k:Int×Str} {w:Int} (e:wAt rs E i=some (k,w)):∃ x,k=((h:Int),x)∧x∈ws∧((rs[i]?=some (.new x)∧w=1 * 2 ^ i)∨(∃ y,rs[i]?=some (.put x (.nm y))∧w=getE E ((h:Int),y))∨(∃ n,rs[i]?=some (.put x (.nu n))∧w=0)):=by
 unfold wAt at e
 split at e
 · rename_i r h' e1 e2
   cases r with
   | new x =>
     obtain ⟨a,b⟩:=Y.nw i x e1
     rw [e2] at b
     cases b
     cases e
     exact ⟨x,rfl,a,.inl ⟨e1,rfl⟩⟩
   | put x o =>
     obtain ⟨a,b⟩:=Y.pt i x o e1
     rw [e2] at b
     cases b
     cases e
     refine ⟨x,rfl,a,.inr ?_⟩
     cases o with
     | nm y=>exact .inl ⟨y,e1,rfl⟩
     | nu n=>exact .inr ⟨n,e1,rfl⟩
   | _=>cases e
 · cases e
theorem IE.stp (Y:Hyp rs ws h) {p:List Ent×Bool} (I:IE rs ws h p.1) (i:Nat):IE rs ws h (stp rs p i).1:=by
 unfold K21V.stp
 cases e:wAt rs p.1 i with
 | none=>exact I
 | some kw =>
   obtain ⟨k,w⟩:=kw
   obtain ⟨x,rfl,hx,hc⟩:=wAt_is Y e
   refine I.put hx ?_ fun j hj=>?_
   · rcases hc with ⟨_,rfl⟩ | ⟨y,_,rfl⟩ | ⟨_,_,rfl⟩
     · rw [Int.one_mul]; exact Int.le_of_lt (two_pos i)
     · exact I.nn y
     · exact Int.le_refl _
   · rcases hc with ⟨hr,rfl⟩ | ⟨y,hr,rfl⟩ | ⟨_,_,rfl⟩
     · rw [ib_bit1] at hj
       rw [of_decide_eq_true hj]
       exact .new hr
     · exact .put hr (I.snd y j hj)
     · rw [BS.ib_zero] at hj; cases hj
theorem stp_sub (p:List Ent×Bool) (i:Nat) (k:Int×Str):sub (getE p.1 k) (getE (stp rs p i).1 k):=by
 unfold stp
 split
 · exact getE_grow _ _ _ _
 · exact sub_refl _
theorem IE.grow (Y:Hyp rs ws h) {E:List Ent} (I:IE rs ws h E):∀ n,IE rs ws h (growN rs E n).1
 | 0=>I
 | n+1=>by rw [grow_succ]; exact (I.grow Y n).stp Y n
theorem grow_sub (E:List Ent) (k:Int×Str):∀ n,sub (getE E k) (getE (growN rs E n).1 k)
 | 0=>sub_refl _
 | n+1=>by rw [grow_succ]; exact sub_trans (grow_sub E k n) (stp_sub _ n k)
theorem grow_true (Y:Hyp rs ws h) {E:List Ent} (I:IE rs ws h E):∀ n,(growN rs E n).2=true→∃ x∈ws,∃ j,j < rs.length∧ib (getE E ((h:Int),x)) j=false∧ib (getE (growN rs E n).1 ((h:Int),x)) j=true
 | 0,z=>by cases z
 | n+1,z=>by
   have I1:=I.grow Y n
   have I2:=I.grow Y (n+1)
   rw [grow_succ] at z I2 ⊢
   by_cases old:(growN rs E n).2=true
   · obtain ⟨x,hx,j,hj,a,b⟩:=grow_true Y I n old
     exact ⟨x,hx,j,hj,a,stp_sub _ n _ j b⟩
   · cases e:wAt rs (growN rs E n).1 n with
     | none=>rw [stp_none e] at z; exact absurd z old
     | some kw =>
       obtain ⟨k,w⟩:=kw
       obtain ⟨x,rfl,hx,hc⟩:=wAt_is Y e
       have es:=stp_some e
       rw [es] at z I2 ⊢
       have ne:¬ bitOr (getE (growN rs E n).1 ((h:Int),x)) w=getE (growN rs E n).1 ((h:Int),x):=fun q=>by
        rw [decide_eq_true q] at z
        cases q2:(growN rs E n).2 with
        | true=>exact old q2
        | false=>rw [q2] at z; cases z
       obtain ⟨j,hj1,hj2⟩:∃ j,ib w j=true∧ib (getE (growN rs E n).1 ((h:Int),x)) j=false:=by
        refine Classical.byContradiction fun q=>ne (ib_ext fun k=>?_)
        rw [ib_or]
        cases a:ib w k with
        | false=>rw [Bool.or_false]
        | true =>
          cases b:ib (getE (growN rs E n).1 ((h:Int),x)) k with
          | true=>rfl
          | false=>exact absurd ⟨k,a,b⟩ q
       have new:ib (getE (putE (growN rs E n).1 ((h:Int),x) (bitOr (getE (growN rs E n).1 ((h:Int),x)) w)) ((h:Int),x)) j=true:=by
        rw [getE_or,if_pos rfl,ib_or,hj1,Bool.or_true]
       refine ⟨x,hx,j,(I2.snd x j new).lt,?_,new⟩
       cases b:ib (getE E ((h:Int),x)) j with
       | false=>rfl
       | true=>rw [grow_sub E _ n j b] at hj2; cases hj2
theorem grow_false (E:List Ent):∀ n,(growN rs E n).2=false→(∀ k,getE (growN rs E n).1 k=getE E k)∧∀ i < n,∀ k w,wAt rs (growN rs E i).1 i=some (k,w)→sub w (getE E k)
 | 0,_=>⟨fun k=>rfl,fun i hi=>by omega⟩
 | n+1,z=>by
   rw [grow_succ] at z ⊢
   have old:(growN rs E n).2=false:=by
    unfold stp at z
    split at z
    · dsimp only at z
      rw [Bool.or_eq_false_iff] at z
      exact z.1
    · exact z
   obtain ⟨a,b⟩:=grow_false E n old
   cases e:wAt rs (growN rs E n).1 n with
   | none =>
     rw [stp_none e]
     refine ⟨a,fun i hi k w q=>?_⟩
     by_cases c:i=n
     · subst c; rw [e] at q; cases q
     · exact b i (by omega) k w q
   | some kw =>
     obtain ⟨k,w⟩:=kw
     rw [stp_some e] at z ⊢
     dsimp only at z ⊢
     rw [Bool.or_eq_false_iff] at z
     have q:bitOr (getE (growN rs E n).1 k) w=getE (growN rs E n).1 k:=by
      have:=z.2
      rw [Bool.not_eq_false'] at this
      exact of_decide_eq_true this
     refine ⟨fun k'=>?_,fun i hi k' w' q'=>?_⟩
     · rw [getE_or]
       split
       · rename_i e'; subst e'; rw [q,a]
       · exact a k'
     · by_cases c:i=n
       · subst c
         rw [e] at q'
         cases q'
         rw [← a k,← q]
         exact sub_or_right _ _
       · exact b i (by omega) k' w' q'
theorem closed_all (Y:Hyp rs ws h) {E:List Ent} (z:(growN rs E rs.length).2=false) {x:Str} {i:Nat} (r:Rch rs x i):ib (getE (growN rs E rs.length).1 ((h:Int),x)) i=true:=by
 obtain ⟨a,b⟩:=grow_false E _ z
 rw [a]
 have pre:∀ n,n≤rs.length→(growN rs E n).2=false:=by
  intro n hn
  cases q:(growN rs E n).2 with
  | false=>rfl
  | true =>
    exfalso
    have up:∀ m,(growN rs E (n+m)).2=true:=by
     intro m
     induction m with
     | zero=>exact q
     | succ m ih =>
       rw [← Nat.add_assoc,grow_succ]
       unfold stp
       split
       · show (_ || _)=true; rw [ih]; rfl
       · exact ih
    have:=up (rs.length - n)
    rw [show n+(rs.length - n)=rs.length by omega,z] at this
    cases this
 induction r with
 | @new x i hr =>
   have hi:=(List.getElem?_eq_some_iff.mp hr).1
   refine b i hi ((h:Int),x) (1 * 2 ^ i) ?_ i (by rw [ib_bit1]; exact decide_eq_true rfl)
   unfold wAt
   rw [hr,(Y.nw i x hr).2]; rfl
 | @put x y i j hr _ ih =>
   have hj:=(List.getElem?_eq_some_iff.mp hr).1
   refine b j hj ((h:Int),x) (getE (growN rs E j).1 ((h:Int),y)) ?_ i ?_
   · unfold wAt
     rw [hr,(Y.pt j x _ hr).2]; rfl
   · rw [(grow_false E j (pre j (by omega))).1]; exact ih
noncomputable def mu (ws:List Str) (h n:Nat) (E:List Ent):Nat:=(ws.map fun w=>n - cnt (getE E ((h:Int),w)) n).sum
theorem sum_lt {f g:Str→Nat}:∀ {ws:List Str},(∀ x∈ws,f x≤g x)→∀ {x:Str},x∈ws→f x < g x→(ws.map f).sum < (ws.map g).sum
 | [],_,_,hx,_=>nomatch hx
 | w :: ws,hl,x,hx,lt=>by
   have le:∀ {l:List Str},(∀ x∈l,f x≤g x)→(l.map f).sum≤(l.map g).sum:=by
    intro l
    induction l with
    | nil=>intro _; exact Nat.le_refl _
    | cons a l ih=>intro hl; simp only [List.map_cons,List.sum_cons]; have:=hl a List.mem_cons_self; have:=ih fun x hx=>hl x (List.mem_cons_of_mem _ hx); omega
   simp only [List.map_cons,List.sum_cons]
   have h1:=hl w List.mem_cons_self
   rcases List.mem_cons.mp hx with e | hx
   · subst e
     have:=le fun x hx=>hl x (List.mem_cons_of_mem _ hx)
     omega
   · have:=sum_lt (fun x hx=>hl x (List.mem_cons_of_mem _ hx)) hx lt
     omega
theorem mu_lt (Y:Hyp rs ws h) {E:List Ent} (I:IE rs ws h E) (z:(growN rs E rs.length).2=true):mu ws h rs.length (growN rs E rs.length).1 < mu ws h rs.length E:=by
 obtain ⟨x,hx,j,hj,a,b⟩:=grow_true Y I _ z
 refine sum_lt (fun y _=>?_) hx ?_
 · have:=cnt_mono (grow_sub (rs:=rs) E ((h:Int),y) rs.length) rs.length
   omega
 · have:=cnt_lt (grow_sub (rs:=rs) E ((h:Int),x) rs.length) b a rs.length hj
   have:=cnt_le (getE (growN rs E rs.length).1 ((h:Int),x)) rs.length
   omega
end
end K21V
namespace K21V
open PySem L2 VT Gen K5 Lay BS K20
open PySem.Builtin (bitOr)
noncomputable def orP (E:List Ent) (k:Int×Str) (w:Int):List Ent:=putE E k (bitOr (getE E k) w)
noncomputable def nwS (h:Nat) (E:List Ent) (i:Nat):Rw→List Ent
 | .new x=>orP E ((h:Int),x) (1 * 2 ^ i)
 | _=>E
noncomputable def ptS (h:Nat) (E:List Ent):Rw→List Ent
 | .put x (.nm y)=>orP E ((h:Int),x) (getE E ((h:Int),y))
 | _=>E
noncomputable def lw0 (h:Nat) (rs:List Rw):Nat→List Ent
 | 0=>[]
 | n+1=>match rs[n]? with
   | some r=>nwS h (lw0 h rs n) n r
   | none=>lw0 h rs n
noncomputable def lwP (h:Nat) (rs:List Rw) (E:List Ent):Nat→List Ent
 | 0=>E
 | n+1=>match rs[n]? with
   | some r=>ptS h (lwP h rs E n) r
   | none=>lwP h rs E n
noncomputable def lwT (h:Nat) (rs:List Rw):Nat→List Ent
 | 0=>lw0 h rs rs.length
 | t+1=>lwP h rs (lwT h rs t) rs.length
noncomputable def RchN (rs:List Rw):Nat→Str→Nat→Prop
 | 0,x,i=>rs[i]?=some (.new x)
 | t+1,x,i=>RchN rs t x i∨∃ (j:Nat) (y:Str),rs[j]?=some (.put x (.nm y))∧RchN rs t y i
section
variable {rs:List Rw} {ws:List Str} {h:Nat}
theorem IE.nw (Y:Hyp rs ws h) {E:List Ent} (I:IE rs ws h E) {i:Nat} {r:Rw} (hr:rs[i]?=some r):IE rs ws h (nwS h E i r):=by
 cases r with
 | new x=>exact I.put (Y.nw i x hr).1 (by rw [Int.one_mul]; exact Int.le_of_lt (two_pos i)) fun j hj=>by rw [ib_bit1] at hj; rw [of_decide_eq_true hj]; exact .new hr
 | _=>exact I
theorem IE.pt (Y:Hyp rs ws h) {E:List Ent} (I:IE rs ws h E) {i:Nat} {r:Rw} (hr:rs[i]?=some r):IE rs ws h (ptS h E r):=by
 cases r with
 | put x o =>
   cases o with
   | nm y=>exact I.put (Y.pt i x _ hr).1 (I.nn y) fun j hj=>.put hr (I.snd y j hj)
   | nu n=>exact I
 | _=>exact I
theorem ie_0 (Y:Hyp rs ws h):∀ n,IE rs ws h (lw0 h rs n)
 | 0=>ie_nil
 | n+1=>by
   have ih:=ie_0 Y n
   unfold lw0
   split
   · rename_i r hr; exact ih.nw Y hr
   · exact ih
theorem IE.p (Y:Hyp rs ws h) {E:List Ent} (I:IE rs ws h E):∀ n,IE rs ws h (lwP h rs E n)
 | 0=>I
 | n+1=>by
   have ih:=I.p Y n
   unfold lwP
   split
   · rename_i r hr; exact ih.pt Y hr
   · exact ih
theorem ie_t (Y:Hyp rs ws h):∀ t,IE rs ws h (lwT h rs t)
 | 0=>ie_0 Y _
 | t+1=>(ie_t Y t).p Y _
theorem nw_sub (E:List Ent) (i:Nat) (r:Rw) (k:Int×Str):sub (getE E k) (getE (nwS h E i r) k):=by
 cases r with
 | new x=>exact getE_grow _ _ _ _
 | _=>exact sub_refl _
theorem pt_sub (E:List Ent) (r:Rw) (k:Int×Str):sub (getE E k) (getE (ptS h E r) k):=by
 cases r with
 | put x o =>
   cases o with
   | nm y=>exact getE_grow _ _ _ _
   | nu n=>exact sub_refl _
 | _=>exact sub_refl _
theorem lw0_all {i:Nat} {x:Str} (hr:rs[i]?=some (.new x)):∀ n,i < n→ib (getE (lw0 h rs n) ((h:Int),x)) i=true
 | 0,z=>by omega
 | n+1,z=>by
   unfold lw0
   by_cases e:i=n
   · subst e
     rw [hr]
     show ib (getE (putE _ _ _) _) _=true
     rw [getE_or,if_pos rfl,ib_or,ib_bit1,decide_eq_true rfl,Bool.or_true]
   · have ih:=lw0_all hr n (by omega)
     split
     · exact nw_sub _ _ _ _ _ ih
     · exact ih
theorem lwP_sub (E:List Ent) (k:Int×Str):∀ n,sub (getE E k) (getE (lwP h rs E n) k)
 | 0=>sub_refl _
 | n+1=>by
   unfold lwP
   split
   · exact sub_trans (lwP_sub E k n) (pt_sub _ _ _)
   · exact lwP_sub E k n
theorem lwP_all {E:List Ent} {j i:Nat} {x y:Str} (hr:rs[j]?=some (.put x (.nm y))) (hy:ib (getE E ((h:Int),y)) i=true):∀ n,j < n→ib (getE (lwP h rs E n) ((h:Int),x)) i=true
 | 0,z=>by omega
 | n+1,z=>by
   unfold lwP
   by_cases e:j=n
   · subst e
     rw [hr]
     show ib (getE (putE _ _ _) _) _=true
     rw [getE_or,if_pos rfl,ib_or,lwP_sub E _ j i hy,Bool.or_true]
   · have ih:=lwP_all hr hy n (by omega)
     split
     · exact pt_sub _ _ _ _ ih
     · exact ih
theorem lwT_all:∀ (t:Nat) {x:Str} {i:Nat},RchN rs t x i→ib (getE (lwT h rs t) ((h:Int),x)) i=true
 | 0,x,i,hr=>lw0_all hr _ (List.getElem?_eq_some_iff.mp hr).1
 | t+1,x,i,hr=>by
   rcases hr with z | ⟨j,y,hj,z⟩
   · exact lwP_sub _ _ _ _ (lwT_all t z)
   · exact lwP_all hj (lwT_all t z) _ (List.getElem?_eq_some_iff.mp hj).1
theorem RchN.up {x:Str} {i:Nat}:∀ {t s:Nat},t≤s→RchN rs t x i→RchN rs s x i:=by
 intro t s hs
 induction hs with
 | refl=>exact id
 | step _ ih=>exact fun z=>.inl (ih z)
theorem RchN.new {x:Str} {i:Nat}:∀ {t:Nat},RchN rs t x i→∃ y,rs[i]?=some (.new y)
 | 0,z=>⟨x,z⟩
 | t+1,z=>by
   rcases z with z | ⟨_,_,_,z⟩
   · exact z.new
   · exact z.new
theorem RchN.inW (Y:Hyp rs ws h) {x:Str} {i:Nat}:∀ {t:Nat},RchN rs t x i→x∈ws
 | 0,z=>(Y.nw i x z).1
 | t+1,z=>by
   rcases z with z | ⟨j,_,z,_⟩
   · exact z.inW Y
   · exact (Y.pt j x _ z).1
noncomputable def Stb (rs:List Rw) (i t:Nat):Prop:=∀ x,RchN rs (t+1) x i→RchN rs t x i
theorem Stb.all {i t:Nat} (s:Stb rs i t) {x:Str} (r:Rch rs x i):RchN rs t x i:=by
 induction r with
 | new hr=>exact RchN.up (Nat.zero_le _) (show RchN rs 0 _ _ from hr)
 | put hr _ ih=>exact s _ (.inr ⟨_,_,hr,ih s⟩)
open Classical in
noncomputable def cN (rs:List Rw) (ws:List Str) (i t:Nat):Nat:=ws.countP fun w=>decide (RchN rs t w i)
theorem countP_lt {α:Type} {p q:α→Bool} (s:∀ x,p x=true→q x=true):∀ {l:List α} {x:α},x∈l→p x=false→q x=true→l.countP p < l.countP q
 | [],_,hx,_,_=>nomatch hx
 | a :: l,x,hx,hp,hq=>by
   have le:∀ l:List α,l.countP p≤l.countP q:=fun l=>List.countP_mono_left fun x _=>s x
   rw [List.countP_cons,List.countP_cons]
   rcases List.mem_cons.mp hx with e | hx
   · subst e
     have:=le l
     rw [hp,hq,if_neg (by decide),if_pos rfl]; omega
   · have:=countP_lt s hx hp hq
     by_cases z:p a=true
     · rw [if_pos z,if_pos (s a z)]; omega
     · rw [if_neg z]; omega
theorem stb_or (Y:Hyp rs ws h) (i t:Nat):Stb rs i t∨cN rs ws i t < cN rs ws i (t+1):=by
 classical
 by_cases c:Stb rs i t
 · exact .inl c
 · refine .inr ?_
   unfold Stb at c
   obtain ⟨x,hx⟩:=Classical.not_forall.mp c
   obtain ⟨h1,h2⟩:=Classical.not_imp.mp hx
   unfold cN
   refine countP_lt (x:=x) (fun y hy=>?_) (h1.inW Y) (by simpa using h2) (by simpa using h1)
   have:=of_decide_eq_true hy
   exact decide_eq_true (.inl this)
theorem rch_3 (Y:Hyp rs ws h) (h4:ws.length=4) {x:Str} {i:Nat} (r:Rch rs x i):RchN rs 3 x i:=by
 classical
 rcases stb_or Y i 0 with s | l0
 · exact RchN.up (by decide) (s.all r)
 rcases stb_or Y i 1 with s | l1
 · exact RchN.up (by decide) (s.all r)
 rcases stb_or Y i 2 with s | l2
 · exact RchN.up (by decide) (s.all r)
 have n0:∃ y,rs[i]?=some (.new y):=by
  clear l0 l1 l2
  induction r with
  | new hr=>exact ⟨_,hr⟩
  | put _ _ ih=>exact ih
 obtain ⟨y,hy⟩:=n0
 have c0:0 < cN rs ws i 0:=List.countP_pos_iff.mpr ⟨y,(Y.nw i y hy).1,decide_eq_true hy⟩
 have c3:cN rs ws i 3=ws.length:=by
  have:cN rs ws i 3≤ws.length:=List.countP_le_length
  rw [show (0:Nat)+1=1 from rfl] at l0
  rw [show (1:Nat)+1=2 from rfl] at l1
  rw [show (2:Nat)+1=3 from rfl] at l2
  omega
 have hx:x∈ws:=by
  clear l0 l1 l2
  cases r with
  | new hr=>exact (Y.nw _ _ hr).1
  | put hr _=>exact (Y.pt _ _ _ hr).1
 exact of_decide_eq_true (List.countP_eq_length.mp c3 x hx)
theorem tell_eq (Y:Hyp rs ws h) (h4:ws.length=4) {E:List Ent} (I:IE rs ws h E) (z:(growN rs E rs.length).2=false) (x:Str):getE (growN rs E rs.length).1 ((h:Int),x)=getE (lwT h rs 4) ((h:Int),x):=by
 refine ib_ext fun k=>?_
 have a:ib (getE (growN rs E rs.length).1 ((h:Int),x)) k=true↔Rch rs x k:=⟨(I.grow Y _).snd x k,closed_all Y z⟩
 have b:ib (getE (lwT h rs 4) ((h:Int),x)) k=true↔Rch rs x k:=⟨(ie_t Y 4).snd x k,fun r=>lwT_all 4 (RchN.up (by decide) (rch_3 Y h4 r))⟩
 cases p:ib (getE (growN rs E rs.length).1 ((h:Int),x)) k <;> cases q:ib (getE (lwT h rs 4) ((h:Int),x)) k
 · rfl
 · rw [b.mp q |> a.mpr] at p; cases p
 · rw [a.mp p |> b.mpr] at q; cases q
 · rfl
theorem mem_get {E:List Ent} (nd:(E.map (·.1)).Nodup) {e:Ent} (he:e∈E):getE E e.1=e.2:=by
 have:=get_E e.1 E
 rw [get_of nd he] at this
 injection this with this
 exact this.symm
theorem get_mem {E:List Ent} {k:Int×Str} (hz:getE E k≠0):(k,getE E k)∈E:=by
 induction E with
 | nil=>exact absurd rfl hz
 | cons e E ih =>
   unfold getE at hz ⊢
   split at hz
   · rename_i q
     rw [if_pos q,← q]; exact List.mem_cons_self
   · rename_i q
     rw [if_neg q]; exact List.mem_cons_of_mem _ (ih hz)
theorem mem_trs {E:List Ent} (I:IE rs ws h E) (t:TS.Tr):t∈trs E↔t.1=(h:Int)∧t.2.2=getE E ((h:Int),t.2.1)∧t.2.2≠0:=by
 unfold trs
 rw [List.mem_map]
 constructor
 · rintro ⟨e,he,rfl⟩
   rw [List.mem_filter] at he
   obtain ⟨h1,h2⟩:=he
   have k:=(I.ks e h1).1
   refine ⟨k,?_,by simpa using h2⟩
   rw [← k]
   exact (mem_get I.nd h1).symm
 · rintro ⟨h1,h2,h3⟩
   refine ⟨(((h:Int),t.2.1),getE E ((h:Int),t.2.1)),List.mem_filter.mpr ⟨get_mem (by rw [← h2]; exact h3),?_⟩,?_⟩
   · simp only [Bool.not_eq_true',decide_eq_false_iff_not]; rw [← h2]; exact h3
   · exact Prod.ext h1.symm (Prod.ext rfl h2.symm)
theorem trs_perm {E F:List Ent} (I:IE rs ws h E) (J:IE rs ws h F) (e:∀ x,getE E ((h:Int),x)=getE F ((h:Int),x)):(trs E).Perm (trs F):=by
 have nd1:=trs_nd I.good
 have nd2:=trs_nd J.good
 refine (List.perm_ext_iff_of_nodup nd1 nd2).mpr fun t=>?_
 rw [mem_trs I,mem_trs J,e]
end
end K21V
namespace VT
open PySem PySem.Spec PyProof.Rows L2
section
variable {K:PySem.W.Frag} {H H':Hp} {A:List Addr}
theorem At.frame {t:T} {v:V} (here:∀ b∈A,∃ u,H b=some u∧mutO u=true) (fr:∀ b o,H b=some o→b∉A→H' b=some o) (h:At K H A t v):At K H' A t v:=by
 have rd:∀ {a:Addr} {u:HO},a∉A→Rd H a u→Rd H' a u:=fun n q=>q.elim (fun z=>.inl (fr _ _ z n)) fun ⟨o,z⟩=>.inr ⟨o,fr _ _ z n⟩
 refine At.map (fun a vs q=>q.elim (fun z=>.inl ⟨rd z.2 z.1,z.2⟩) .inr) (fun a vs q=>q.elim (fun z=>.inl (rd (fun m=>?_) z)) .inr) (fun a u q=>⟨fr _ _ q.1 q.2,q.2⟩) h
 obtain ⟨u,e,mu⟩:=here a m
 rcases z with z | ⟨o,z⟩
 · rw [e] at z; cases z; cases mu
 · rw [e] at z; cases z; cases mu
end
noncomputable def iniS:S2:=⟨[],[],[],[]⟩
noncomputable def gMk (i j:Nat) (Gg:T→S2→(S2→T→Prop)→Prop) (Gli:List T→(Rt→Prop)→Prop):FSD:=fun _ dp ρ=>i < ρ.length∧match ρ[j]? with
 | some (some (l,false))=>∃ W:Nat→S2→Prop,(∃ m,W m iniS)∧∀ m s,W m s→Gg l s fun s' t=>∃ b,t = .bl b∧if b=true then ∃ m',m' < m∧W m' s' else
    ∀ o1 o2,Gli [.df o1 s'.k1 s'.t1] fun r1=>∃ ts1,r1 = .fr (.lst ts1)∧imms ts1=true∧Gli [.df o2 s'.k2 s'.t2] fun r2=>∃ ts2,r2 = .fr (.lst ts2)∧imms ts2=true∧dp [.lst ts1,.lst ts2]
 | _=>False
section
variable {X:Cx} {Z:Zc} {C:Addr} {Gg:T→S2→(S2→T→Prop)→Prop} {Gli:List T→(Rt→Prop)→Prop}
theorem env_no (K:PySem.W.Frag) (H:Hp):EnvAt K ⟨H,[],[]⟩ [] [] [] [] H:=⟨rfl,rfl,fun i e h=>by simp at h,List.nodup_nil,fun a h=>absurd h List.not_mem_nil,fun p hp=>absurd hp List.not_mem_nil,fun a h=>absurd h List.not_mem_nil,fun b o e _=>e,fun p hp=>absurd hp List.not_mem_nil⟩
theorem list_call {H:Hp} {v:V} {t:T} {q:List T→Prop} {Q:VK} (a:At X.K H [] t v) (hG:Gli [t] fun r=>∃ ts,r = .fr (.lst ts)∧imms ts=true∧q ts)
  (k:∀ ts,q ts→imms ts=true→∀ l vs H',Same H H'→H l=none→H' l=some (.lst vs)→(∀ A,AtL X.K H' A ts vs)→Q (.ref l) H'):spP X.K 1 Gli ([v] ++ []) H Q E0 :=
 call_ok (X:=X) (env_no X.K H) (AtL.cons a AtL.nil) rfl hG fun r ⟨ts,er,hi,hq⟩ w H' sm z=>by
  subst er
  obtain ⟨l,rfl,_,⟨vs,e,av⟩,n,_⟩:=z
  exact k ts hq hi l vs H' sm n e fun A=>AtL.imm hi av
theorem mk_end {K:PySem.W.Frag} {M:MG} {s:S2} {H H0:Hp} {Ox:List Addr} {o1 o2:Obj} {vs1 vs2:List V} {dp:List T→Prop} (sd:SD K M s H) (l1:s.k1.length=vs1.length) (e1:H M.a1=some (.dT (s.k1.zip vs1))) (q1:AtL K H M.Ox s.t1 vs1)
  (l2:s.k2.length=vs2.length) (e2:H M.a2=some (.dT (s.k2.zip vs2))) (q2:AtL K H M.Ox s.t2 vs2):∃ H2,H2=upd (upd H M.a1 (.frz o1 (.dT (s.k1.zip vs1)))) M.a2 (.frz o2 (.dT (s.k2.zip vs2))) ∧
  At K H2 [] (.df o1 s.k1 s.t1) (.ref M.a1)∧At K H2 [] (.df o2 s.k2 s.t2) (.ref M.a2)∧H2 M.a=some (.ins M.C M.dx (fN.zip [.ref M.a1,.ref M.a2]))∧∀ b o,H b=some o→b∉M.Ox→H2 b=some o:=by
 have m1:M.a1∈M.Ox:=by simp [MG.Ox]
 have m2:M.a2∈M.Ox:=by simp [MG.Ox]
 have e2':upd H M.a1 (.frz o1 (.dT (s.k1.zip vs1))) M.a2=some (.dT (s.k2.zip vs2)):=by rw [upd_ne (Ne.symm M.n3)]; exact e2
 refine ⟨_,rfl,?_,?_,?_,fun b o e n=>?_⟩
 · simp only [At]
   exact ⟨M.a1,vs1,rfl,l1,⟨by rw [upd_ne M.n3,upd_same],fun z=>nomatch z⟩,((q1.wrote m1 e1 rfl).wrote m2 e2' rfl).fewer fun b hb=>nomatch hb⟩
 · simp only [At]
   exact ⟨M.a2,vs2,rfl,l2,⟨upd_same,fun z=>nomatch z⟩,((q2.wrote m1 e1 rfl).wrote m2 e2' rfl).fewer fun b hb=>nomatch hb⟩
 · rw [upd_ne M.n2,upd_ne M.n1]; exact sd.ins
 · rw [upd_ne (fun z=>n (by rw [z]; exact m2)),upd_ne (fun z=>n (by rw [z]; exact m1))]; exact e
structure Made (C:Addr) (H H3:Hp) (a dx p1 p2:Addr):Prop where
 same:Same H H3
 na:H a=none
 n1:H p1=none
 n2:H p2=none
 ne:p1≠p2
 ea:H3 a=some (.ins C dx (fN.zip [.ref p1,.ref p2]))
 d1:H3 p1=some (.dT [])
 d2:H3 p2=some (.dT [])
noncomputable def tSets (C:Addr):TE:=fun σ H Q=>∀ a dx p1 p2 H3,Made C H H3 a dx p1 p2→Q (.ref a) H3
theorem pe_sets {xC:Str} {kC:Nat} {fI:Addr} {fdI:FuncData} {psI:List Str} {GI:List T→(T→Prop)→Prop} {pC pd1 pd2 pc:Pos} (MI:Mk X.K C fI) (FI:FnOk X.prog X.w X.K X.mg X.base CX0 kC fI fdI psI (spI X.K C 2 GI)) (hGI:∀ t1 t2 q,q (.ins C fN [t1,t2])→GI [t1,t2] q) (rI:Room (kC+1) X.A) (gI:Gl X xC) (mI:X.mg xC=some (.ref C)) (bI:Binds X.K fdI psI [])
  (db1:(xC == ("__debug__" : Str))=false:=by decide) (s1:starEach [.Dict [] [] pd1,.Dict [] [] pd2] X.env=(false,eval (.Dict [] [] pd1) X.env) :: starEach [.Dict [] [] pd2] X.env:=by rfl) (s2:starEach [.Dict [] [] pd2] X.env=(false,eval (.Dict [] [] pd2) X.env) :: starEach [] X.env:=by rfl)
  (s3:(backTo pc (starEach [.Dict [] [] pd2] X.env)).any (·.1)=false:=by rfl):PE X (.Call (.Name xC pC) [.Dict [] [] pd1,.Dict [] [] pd2] [] pc) (tSets C) :=
 PE.weak (pe_make MI FI rI gI mI bI .nil pass0 (pa_cons pe_dnewT (pa_cons pe_dnewT pa_nil s2) s1) db1 s1 s3) fun σ H Q h=>by
  intro p1 hp1 p2 hp2
  have sa:Same H (upd H p1 (.dT [])):=same_upd hp1
  have sb:Same (upd H p1 (.dT [])) (upd (upd H p1 (.dT [])) p2 (.dT [])):=same_upd hp2
  have ne12:p1≠p2:=fun z=>by rw [← z,upd_same] at hp2; cases hp2
  have hp2':H p2=none:=by rw [upd_ne (Ne.symm ne12)] at hp2; exact hp2
  have d1:upd (upd H p1 (.dT [])) p2 (.dT []) p1=some (.dT []):=sb _ _ upd_same
  have d2:upd (upd H p1 (.dT [])) p2 (.dT []) p2=some (.dT []):=upd_same
  refine make_ok (X:=X) (Z:=⟨_,[],[]⟩) (C:=C) (G:=GI) (Q:=Q) (q:=fun r=>r = .fr (.ins C fN [.pin p1 (.dt [] []),.pin p2 (.dt [] [])])) (env_no X.K _) (ts:=[.pin p1 (.dt [] []),.pin p2 (.dt [] [])]) (vs:=[.ref p1,.ref p2]) (AtL.cons ?_ (AtL.cons ?_ AtL.nil)) rfl (hGI _ _ (fun u=>Rt.fr u = .fr (.ins C fN [.pin p1 (.dt [] []),.pin p2 (.dt [] [])])) rfl) (fun r er v H3 sm z=>?_)
  · unfold At
    refine ⟨rfl,?_⟩
    simp only [At]
    exact ⟨p1,[],rfl,rfl,⟨d1,fun m=>nomatch m⟩,AtL.nil⟩
  · unfold At
    refine ⟨rfl,?_⟩
    simp only [At]
    exact ⟨p2,[],rfl,rfl,⟨d2,fun m=>nomatch m⟩,AtL.nil⟩
  · subst er
    obtain ⟨a,rfl,_,⟨dx,vs,hl,ea,hv⟩,n0,_⟩:=z
    simp only [AtL] at hv
    obtain ⟨_,_,rfl,h1,_,_,rfl,h2,rfl⟩:=hv
    unfold At at h1 h2
    obtain ⟨rfl,_⟩:=h1
    obtain ⟨rfl,_⟩:=h2
    refine h a dx p1 p2 H3 ⟨(sa.trans sb).trans sm,?_,hp1,hp2',ne12,ea,sm _ _ d1,sm _ _ d2⟩
    cases z:H a with
    | none=>rfl
    | some o=>have:=sb _ _ (sa _ _ z); rw [show upd (upd H p1 (.dT [])) p2 (.dT []) a=none from n0] at this; cases this
theorem vsd_makers {i j:Nat} {x y xC xg xl:Str} {kC kg kl:Nat} {fI fg fl:Addr} {fdI fdg fdl:FuncData} {psI psg psl:List Str} {GI:List T→(T→Prop)→Prop} {px pC p1 pd1 pd2 pc pg pv1 pv2 pgc pw pp pf1 pf2 pa1 pa2 pl1 pl2 plc1 plc2 pt pr:Pos} {kt}
  (hP:Z.P=[]) (hij:i≠j) (hN:X.N.Nodup) (hi:X.N[i]?=some x) (hj:X.N[j]?=some y) (hx:Loc X.env.scope x) (vx:Vis X.env.scope x) (vy:Vis X.env.scope y) (hp:PassesOwn (model X.prog X.w) X.A X.env X.xe)
  (MI:Mk X.K C fI) (FI:FnOk X.prog X.w X.K X.mg X.base CX0 kC fI fdI psI (spI X.K C 2 GI)) (hGI:∀ t1 t2 q,q (.ins C fN [t1,t2])→GI [t1,t2] q) (rI:Room (kC+1) X.A) (gI:Gl X xC) (mI:X.mg xC=some (.ref C)) (bI:Binds X.K fdI psI [])
  (Fg:FnOk X.prog X.w X.K X.mg X.base CX0 kg fg fdg psg (spG X.K C Gg)) (rg:Room kg X.A) (gg:Gl X xg) (mg:X.mg xg=some (.ref fg)) (kgk:PySem.W.keepIn X.K (.ref fg)=true) (bg:Binds X.K fdg psg [])
  (Fl:FnOk X.prog X.w X.K X.mg X.base CX0 kl fl fdl psl (spP X.K 1 Gli)) (rl:Room kl X.A) (gl:Gl X xl) (ml:X.mg xl=some (.ref fl)) (klk:PySem.W.keepIn X.K (.ref fl)=true) (bl:Binds X.K fdl psl [])
  (cl:Cls X.K C) (n1:NoAttr X.K C "names") (n2:NoAttr X.K C "cells")
  (hd:(x == ("__debug__" : Str))=false:=by decide) (hcd:(x == ("__classdict__" : Str))=false:=by decide) (hd2:(y == ("__debug__" : Str))=false:=by decide) (hcd2:(y == ("__classdict__" : Str))=false:=by decide)
  (db1:(xC == ("__debug__" : Str))=false:=by decide) (db2:(xg == ("__debug__" : Str))=false:=by decide) (db3:(xl == ("__debug__" : Str))=false:=by decide)
  (s1:starEach [.Dict [] [] pd1,.Dict [] [] pd2] X.env=(false,eval (.Dict [] [] pd1) X.env) :: starEach [.Dict [] [] pd2] X.env:=by rfl) (s2:starEach [.Dict [] [] pd2] X.env=(false,eval (.Dict [] [] pd2) X.env) :: starEach [] X.env:=by rfl)
  (s3:(backTo pc (starEach [.Dict [] [] pd2] X.env)).any (·.1)=false:=by rfl)
  (g1:starEach [.Name y pv1,.Name x pv2] X.env=(false,eval (.Name y pv1) X.env) :: starEach [.Name x pv2] X.env:=by rfl) (g2:starEach [.Name x pv2] X.env=(false,eval (.Name x pv2) X.env) :: starEach [] X.env:=by rfl) (g3:(backTo pgc (starEach [.Name x pv2] X.env)).any (·.1)=false:=by rfl)
  (he:∀ whole,isTrue (.Call (.Name xg pg) [.Name y pv1,.Name x pv2] [] pgc) X.env whole=(do let v ← whole; standAt (Expr.pos (.Call (.Name xg pg) [.Name y pv1,.Name x pv2] [] pgc)); holding [v] (truthy v)):=by intro _; rfl)
  (b1:attributeBase (.Name x pf1) "names" X.env (eval (.Name x pf1) X.env)=eval (.Name x pf1) X.env:=by rfl) (b2:attributeBase (.Name x pf2) "cells" X.env (eval (.Name x pf2) X.env)=eval (.Name x pf2) X.env:=by rfl)
  (a1:starEach [.Attribute (.Name x pf1) "names" pa1] X.env=(false,eval (.Attribute (.Name x pf1) "names" pa1) X.env) :: starEach [] X.env:=by rfl) (a2:starEach [.Attribute (.Name x pf2) "cells" pa2] X.env=(false,eval (.Attribute (.Name x pf2) "cells" pa2) X.env) :: starEach [] X.env:=by rfl)
  (a3:(backTo plc1 (starEach [] X.env)).any (·.1)=false:=by rfl) (a4:(backTo plc2 (starEach [] X.env)).any (·.1)=false:=by rfl)
  (t1:starEach [.Call (.Name xl pl1) [.Attribute (.Name x pf1) "names" pa1] [] plc1,.Call (.Name xl pl2) [.Attribute (.Name x pf2) "cells" pa2] [] plc2] X.env=(false,eval (.Call (.Name xl pl1) [.Attribute (.Name x pf1) "names" pa1] [] plc1) X.env) :: starEach [.Call (.Name xl pl2) [.Attribute (.Name x pf2) "cells" pa2] [] plc2] X.env:=by rfl)
  (t2:starEach [.Call (.Name xl pl2) [.Attribute (.Name x pf2) "cells" pa2] [] plc2] X.env=(false,eval (.Call (.Name xl pl2) [.Attribute (.Name x pf2) "cells" pa2] [] plc2) X.env) :: starEach [] X.env:=by rfl)
  (hs:swapsWith (.Call (.Name xC pC) [.Dict [] [] pd1,.Dict [] [] pd2] [] pc) (some (.Name x px)) p1.line X.env=pure false:=by rfl) (hf:X.fn x=true∨X.env.scope.names.lookup x=some .local:=by first | exact .inl rfl | exact .inr rfl | assumption) :
  VSsD X Z [.Assign [.Name x px] (.Call (.Name xC pC) [.Dict [] [] pd1,.Dict [] [] pd2] [] pc) p1,.While (.Call (.Name xg pg) [.Name y pv1,.Name x pv2] [] pgc) [.Pass pp] [] pw,
   .Return (some (.Tuple [.Call (.Name xl pl1) [.Attribute (.Name x pf1) "names" pa1] [] plc1,.Call (.Name xl pl2) [.Attribute (.Name x pf2) "cells" pa2] [] plc2] kt pt)) pr] (gMk i j Gg Gli):=.mk fun tm =>
 PSs.weak' (pss_cons (ps_set hN hi hx (pe_sets MI FI hGI rI gI mI bI db1 s1 s2 s3) hs hf)
  (pss_cons (ps_while hp (pt_val (pe_call Fg rg gg mg kgk bg .nil pass0 (pa_cons (pe_var hj vy hd2 hcd2) (pa_cons (pe_var hi vx hd hcd) pa_nil g2) g1) db2 g1 g3) he) (pss_one ps_pass))
    (pss_ice (pss_ice (pss_one (ps_ret (pe_tup (pa_cons (pe_call Fl rl gl ml klk bl .nil pass0 (pa_cons (pe_fld (pe_var hi vx hd hcd) b1) pa_nil a1) db3 a1 a3) (pa_cons (pe_call Fl rl gl ml klk bl .nil pass0 (pa_cons (pe_fld (pe_var hi vx hd hcd) b2) pa_nil a2) db3 a2 a4) pa_nil t2) t1)))))))) fun D σ H ⟨ρ,O,d,dp,I,q,F⟩=>by
  obtain ⟨hil,q⟩:=q
  split at q
  · rename_i l el
    obtain ⟨W,w0,step⟩:=q
    intro a dx p1 p2 H3 ⟨sH,na,hp1,hp2',ne12,ea,d1',d2'⟩
    let M:MG:=⟨a,dx,p1,p2,C,H3,(fun z=>by rw [z,d1'] at ea; cases ea),(fun z=>by rw [z,d2'] at ea; cases ea),ne12⟩
    have nO:∀ b∈M.Ox,H b=none:=fun b hb=>by
     simp only [MG.Ox,List.mem_cons,List.not_mem_nil,or_false] at hb
     rcases hb with rfl | rfl | rfl
     · exact na
     · exact hp1
     · exact hp2'
    have keepO:∀ b o,Z.H0 b=some o→H b=some o:=fun b o e=>I.keep b o e (by rw [hP]; exact fun z=>nomatch z)
    have sd0:SD X.K M iniS H3:=⟨ea,⟨[],rfl,d1',AtL.nil⟩,⟨[],rfl,d2',AtL.nil⟩,fun b o e _=>e⟩
    obtain ⟨_,_,o1,o2,rfl,v0,rfl,av0⟩:=I.sl j _ el
    have at0:At X.K H3 M.Ox l v0:=(av0.more fun b hb=>.inr (nO b hb)).same sH
    have sj:(σ.set i (some (.ref a)))[j]?=some (some v0):=by rw [List.getElem?_set_ne hij]; exact o2
    have si:(σ.set i (some (.ref a)))[i]?=some (some (.ref a)):=List.getElem?_set_self (by rw [I.lσ]; exact hil)
    refine ⟨fun m σ' H'=>σ'=σ.set i (some (.ref a))∧∃ s,W m s∧SD X.K M s H'∧At X.K H' M.Ox l v0,?_,?_⟩
    · obtain ⟨m,hm⟩:=w0
      exact ⟨m,rfl,_,hm,sd0,at0⟩
    · rintro m _ H4 ⟨rfl,s,hw,sd,at4⟩
      refine ⟨v0,sj,.ref a,si,?_⟩
      refine ⟨M,s,l,v0,_,rfl,rfl,at4,⟨sd.ins,sd.d1,sd.d2,fun b o e _=>e⟩,step m s hw,fun s' t ht v H5 sd5 a5=>?_⟩
      obtain ⟨b,rfl,hb⟩:=ht
      simp only [At] at a5
      refine ⟨b,a5,?_⟩
      have sd6:SD X.K M s' H5:=⟨sd5.ins,sd5.d1,sd5.d2,fun b o e n=>sd5.fr b o (sd.fr b o e n) n⟩
      cases b with
      | true =>
        rw [if_pos rfl] at hb
        show if true=true then _ else _
        rw [if_pos rfl]
        obtain ⟨m',lt,hw'⟩:=hb
        exact ⟨fun σ' H'=>σ'=σ.set i (some (.ref a))∧∃ s,W m' s∧SD X.K M s H'∧At X.K H' M.Ox l v0,fun σ' H' h=>⟨m',lt,h⟩,rfl,s',hw',sd6,at4.frame sd.here fun b o e n=>sd5.fr b o e n⟩
      | false =>
        rw [if_neg Bool.false_ne_true] at hb
        show if false=true then _ else _
        rw [if_neg Bool.false_ne_true]
        obtain ⟨vs1,l1,e1,q1⟩:=sd6.d1
        obtain ⟨vs2,l2,e2,q2⟩:=sd6.d2
        refine ⟨p1,_,e1,fun o1=>⟨p2,_,(by rw [upd_ne (Ne.symm ne12)]; exact e2),fun o2=>?_⟩⟩
        obtain ⟨H6,eH,A1,A2,ea6,fr6⟩:=mk_end (o1:=o1) (o2:=o2) (H0:=H) (Ox:=[]) (dp:=dp) sd6 l1 e1 q1 l2 e2 q2
        have fr:∀ b o,Z.H0 b=some o→H6 b=some o:=fun b o e=>by
         have e':=keepO b o e
         have n:b∉M.Ox:=fun z=>by rw [nO b z] at e'; cases e'
         exact fr6 b o (sd6.fr b o (sH _ _ e') n) n
        rw [← show _=_ from eH]
        refine ⟨.ref a,si,a,C,dx,_,.ref p1,rfl,ea6,cl,n1,rfl,list_call A1 (hb o1 o2) fun ts1 h1 i1 b1 us1 H7 s7 n7 e7 at7=>?_⟩
        refine ⟨.ref a,si,a,C,dx,_,.ref p2,rfl,s7 _ _ ea6,cl,n2,rfl,list_call (A2.same s7) h1 fun ts2 h2 i2 b2 us2 H8 s8 n8 e8 at8=>?_⟩
        refine ⟨by rw [sizeLine_eq]; simp,fun p hp=>?_⟩
        have sp:Same H8 (upd H8 p (.tup [.ref b1,.ref b2])):=same_upd hp
        have ne:b1≠b2:=fun z=>by rw [← z,e7] at n8; cases n8
        refine F.dp [.lst ts1,.lst ts2] h2 p [b1,b2] _ ⟨fun b o e=>sp _ _ (s8 _ _ (s7 _ _ (fr b o e))),upd_same,?_,?_,?_⟩
        · simp [ne]
        · intro b hb'
          simp only [List.mem_cons,List.not_mem_nil,or_false] at hb'
          cases z:Z.H0 b with
          | none=>rfl
          | some o =>
            exfalso
            have e6:=fr b o z
            rcases hb' with rfl | rfl
            · rw [n7] at e6; cases e6
            · rw [s7 _ _ e6] at n8; cases n8
        · refine .cons ⟨us1,sp _ _ (s8 _ _ e7),((at7 _).same s8).same sp⟩ (.cons ⟨us2,sp _ _ e8,(at8 _).same sp⟩ .nil)
  · exact q.elim
end
end VT
namespace K21V
open PySem L2 VT Gen K5 Lay BS K20
open PySem.Builtin (bitOr)
noncomputable def gMakers (ts:List T) (q:List T→Prop):Prop:=∃ (rs:List Rw) (ws:List Str) (h:Nat),ts=[.lst (rs.map rowT)]∧WFR rs∧rs.length≤100∧(∀ r∈rs,okR r=true)∧Hyp rs ws h∧ws.length=4 ∧
 ∀ bs:List TS.Tr,bs.Perm (trs (lwT h rs 4))→bs.Pairwise (fun a b=>TS.ltTr a b=true)→q [.lst (bs.map TS.tT),.lst []]
theorem imms_tT:∀ bs:List TS.Tr,imms (bs.map TS.tT)=true
 | []=>rfl
 | b :: bs=>by rw [List.map_cons,imms,imms_tT bs]; rfl
section
variable {P:Program} {w:World} {K:PySem.W.Frag} {mg:Str→Option Value} {base:Heap} {cLayout cSets:Addr}
noncomputable abbrev n_makers:List Str:=["program","layout","sets"]
theorem sc_makers:FnScope n_makers ["program"] (defScope s_makers):=⟨rfl,rfl,rfl,by decide +kernel,rfl,by decide +kernel,by decide +kernel⟩
theorem ok_makers {f:Addr} {fd:FuncData} (D:Df K mg "makers" s_makers ["program"] f fd) (M:LyC K cLayout) (M1:StC K cSets) (C_Layout:CalC P w K mg base "Layout" cLayout ["self","program"] 2 1 (gLayout cLayout)) (C_Sets:CalC P w K mg base "Sets" cSets ["self","names","cells"] 1 2 (gSets cSets)) (C_grown:Cal P w K mg base "grown" ["layout","sets"] 5 (spG K cSets (gGrown cLayout))) (C_list_of:Cal P w K mg base "list_of" ["held"] 1 (spP K 1 gListOf)):Cal P w K mg base "makers" ["program"] 6 (spD K 1 gMakers):=by
 obtain ⟨f_Layout,fd_Layout,k_Layout,m_Layout,b_Layout,F_Layout⟩:=C_Layout
 obtain ⟨f_Sets,fd_Sets,k_Sets,m_Sets,b_Sets,F_Sets⟩:=C_Sets
 obtain ⟨f_grown,fd_grown,m_grown,k_grown,b_grown,F_grown⟩:=C_grown
 obtain ⟨f_list_of,fd_list_of,m_list_of,k_list_of,b_list_of,F_list_of⟩:=C_list_of
 refine D.cal (fnD D.F sc_makers rfl (by decide) fun cdv A outer s H E Ox hr ts q hG=>?_)
 have nd:=sc_makers.nd
 have hu:=Room.u101 hr
 have np:∀ {i:Nat},NotPar ⟨H,[],Ox⟩ i:=np0
 have npf:∀ {is:List Nat},∀ i∈is,NotPar ⟨H,[],Ox⟩ i:=fun i _=>np0
 refine ⟨_,vsd_cons (vs_set (i:=1) nd rfl (Or.inl rfl) (VP.vx (vp_make k_Layout F_Layout (hr.mono (by decide)) (by rfl) m_Layout b_Layout (va_cons (ve_var 0) va_nil))) np)
  (vsd_makers (i:=2) (j:=1) rfl (by decide) nd rfl rfl (Or.inl rfl) (Or.inl rfl) (Or.inl rfl) PassesOwn.never k_Sets F_Sets (fun t1 t2 q hq=>⟨t1,t2,rfl,hq⟩) (hr.mono (by decide)) (by rfl) m_Sets b_Sets F_grown (hr.mono (by decide)) (by rfl) m_grown k_grown b_grown F_list_of (hr.mono (by decide)) (by rfl) m_list_of k_list_of b_list_of M1.cl M1.n_names M1.n_cells),fun _=>?_⟩
 obtain ⟨rs,ws,h,rfl,W,hn,hok,Y,h4,hq⟩:=hG
 refine ⟨rfl,rs,rfl,W,hn,?_⟩
 refine ⟨by show 2 < 3; decide,?_⟩
 refine ⟨fun m s=>∃ E,s=sE E∧IE rs ws h E∧m=mu ws h rs.length E,⟨_,[],rfl,ie_nil,rfl⟩,?_⟩
 rintro m s ⟨E,rfl,I,rfl⟩
 have hl:=I.len
 refine ⟨rs,E,rfl,rfl,hok,hn,by omega,_,rfl,?_⟩
 have I':=I.grow Y rs.length
 have hl':=I'.len
 split
 · rename_i z
   exact ⟨_,mu_lt Y I z,_,rfl,I',rfl⟩
 · rename_i z
   have z':(growN rs E rs.length).2=false:=by simpa using z
   intro o1 o2
   refine ⟨(growN rs E rs.length).1,o1,rfl,⟨I'.nd,by omega,I'.good.pos⟩,fun bs p srt=>⟨_,rfl,imms_tT bs,?_⟩⟩
   refine ⟨[],o2,rfl,⟨List.nodup_nil,Nat.zero_le _,fun e z=>nomatch z⟩,fun cs p2 _=>⟨_,rfl,imms_tT cs,?_⟩⟩
   have ec:cs=[]:=List.perm_nil.mp p2
   subst ec
   exact hq bs (p.trans (trs_perm I' (ie_t Y 4) fun x=>tell_eq Y h4 I z' x)) srt
end
end K21V
namespace GenV
open PySem L2 VT Gen
open K01 (letters)
noncomputable def top (i:Nat):Stmt:=PySem.Challenge.pw_slicewise_k21_names_put_about.main.body.getD i (.Pass ⟨0,0,0,0⟩)
noncomputable abbrev s_cell_at:Stmt:=top 26
noncomputable abbrev s_words:Stmt:=top 27
structure MgG (mg:Str→Option Value):Prop where
 len:mg "len" = none
 range:mg "range" = none
 tuple:mg "tuple" = none
 sum:mg "sum" = none
noncomputable def gCell (ts:List T) (q:Rt→Prop):Prop:=∃ (ns:List Int) (j:Nat),ts=[.lst (ns.map .int),.int (j:Int)]∧q (.vw (.int (ns.getD j 0)))
noncomputable def gWords (ts:List T) (q:Rt→Prop):Prop:=∃ (c:Int) (m:Nat),ts=[.int c,.int (m:Int)]∧2≤m∧m≤20∧q (.fr (.lst ((wordsL c m).map .str)))
section
variable {P:Program} {w:World} {K:PySem.W.Frag} {mg:Str→Option Value} {base:Heap}
noncomputable abbrev n_cell_at:List Str:=["_law_script","_law_k"]
theorem sc_cell_at:FnScope n_cell_at ["_law_script","_law_k"] (defScope s_cell_at):=⟨rfl,rfl,rfl,by decide +kernel,rfl,by decide +kernel,by decide +kernel⟩
theorem ok_cell_at {f:Addr} {fd:FuncData} (D:Df K mg "_law_cell_at" s_cell_at ["_law_script","_law_k"] f fd) (M:MgG mg):Cal P w K mg base "_law_cell_at" ["_law_script","_law_k"] 1 (spP K 2 gCell):=by
 refine D.cal (fnP D.F sc_cell_at rfl fun cdv A outer s H E Ox hr ts q hG=>?_)
 have nd:=sc_cell_at.nd
 have hu:=Room.u101 hr
 have np:∀ {i:Nat},NotPar ⟨H,[],Ox⟩ i:=np0
 have npf:∀ {is:List Nat},∀ i∈is,NotPar ⟨H,[],Ox⟩ i:=fun i _=>np0
 refine ⟨_,(vss_cons (vs_if (vc_lt (vr_var 1) (VP.vr (vp_callB call_lenU callT_len (by rfl) M.len PySem.boot_len (var_cons (vr_var 0) var_nil))))
    (vss_one (vs_ret (VP.vx (vp_ix (vr_var 0) (vr_var 1)))))
    vss_nil)
   (vss_one (vs_ret (VP.vx vp_int)))),fun _=>?_⟩
 obtain ⟨ns,j,rfl,hq⟩:=hG
 refine ite2 (fun h=>?_) (fun h=>?_)
 · have h':(j:Int) < ((ns.map T.int).length:Int):=of_decide_eq_true h
   rw [List.length_map] at h'
   have hj:j < ns.length:=by omega
   refine ⟨.int (ns.getD j 0),atI_nat ?_,hq⟩
   rw [List.getElem?_map,List.getElem?_eq_getElem hj,List.getD,List.getElem?_eq_getElem hj]
   rfl
 · have h':¬ ((j:Int) < ((ns.map T.int).length:Int)):=fun z=>h (decide_eq_true z)
   rw [List.length_map] at h'
   have e:ns.getD j 0=0:=by
    rw [List.getD,List.getElem?_eq_none (by omega)]
    rfl
   rw [e] at hq
   exact hq
noncomputable abbrev n_words:List Str:=["_law_cell","_law_many","_law_letters","_law_size","_law_at","_law_words_here","_law_k","_law_word","_law_j","_law_number"]
theorem sc_words:FnScope n_words ["_law_cell","_law_many"] (defScope s_words):=⟨rfl,rfl,rfl,by decide +kernel,rfl,by decide +kernel,by decide +kernel⟩
theorem ok_words {f:Addr} {fd:FuncData} (D:Df K mg "_law_words" s_words ["_law_cell","_law_many"] f fd) (M:MgG mg):Cal P w K mg base "_law_words" ["_law_cell","_law_many"] 1 (spP K 2 gWords):=by
 refine D.cal (fnP D.F sc_words rfl fun cdv A outer s H E Ox hr ts q hG=>?_)
 have nd:=sc_words.nd
 have hu:=Room.u101 hr
 have np:∀ {i:Nat},NotPar ⟨H,[],Ox⟩ i:=np0
 have npf:∀ {is:List Nat},∀ i∈is,NotPar ⟨H,[],Ox⟩ i:=fun i _=>np0
 refine ⟨_,(vss_cons (vs_set (i:=2) nd rfl (Or.inl rfl) (VP.vx vp_str) np)
   (vss_cons (vs_set (i:=0) nd rfl (Or.inl rfl) (VP.vx (vp_mod (vr_var 0) (VP.vr (vp_pow (VP.vr vp_int) (VP.vr vp_int))))) np)
   (vss_cons (vs_set (i:=3) nd rfl (Or.inl rfl) (VP.vx (vp_add (VP.vr vp_int) (VP.vr (vp_mod (vr_var 0) (VP.vr vp_int))))) np)
   (vss_cons (vs_set (i:=4) nd rfl (Or.inl rfl) (VP.vx (vp_mod (VP.vr (vp_fdiv (vr_var 0) (VP.vr vp_int))) (vr_var 3))) np)
   (vss_cons (vs_own (i:=5) nd rfl (Or.inl rfl) (VP.vx (vp_lst va_nil)) np)
   (vss_cons (vs_for PassesOwn.never rfl (vi_range1 (by rfl) M.range (vr_var 1)) (vg_name (i:=6) nd rfl (Or.inl rfl) np)
     (vss_cons (vs_set (i:=7) nd rfl (Or.inl rfl) (VP.vx vp_str) np)
     (vss_cons (vs_for PassesOwn.never rfl (vi_range1 (by rfl) M.range (vr_var 3)) (vg_name (i:=8) nd rfl (Or.inl rfl) np)
       (vss_cons (vs_set (i:=9) nd rfl (Or.inl rfl) (VP.vx (vp_add (VP.vr (vp_fdiv (VP.vr (vp_fdiv (vr_var 0) (VP.vr vp_int))) (VP.vr (vp_add (vr_var 8) (VP.vr vp_int))))) (VP.vr (vp_mul (vr_var 8) (vr_var 8))))) np)
       (vss_cons (vs_if (vc_eq hu (vr_var 8) (vr_var 4))
         (vss_one (vs_aug (i:=9) nd rfl (Or.inl rfl) (vr_var 6) iop_add opT_AddI np))
         vss_nil)
       (vss_one (vs_set (i:=7) nd rfl (Or.inl rfl) (VP.vx (vp_add (vr_var 7) (VP.vr (vp_ix (vr_var 2) (VP.vr (vp_mod (vr_var 9) (VP.vr vp_int))))))) np)))))
     (vss_one (vs_expr (vx_bm 5 PySem.F.slot_list_append PySem.F.type_list_append mt_append mtT_append (va_cons (ve_var 7) va_nil)))))))
   (vss_cons (vs_if (vc_eq hu (VP.vr (vp_mod (VP.vr (vp_fdiv (vr_var 0) (VP.vr vp_int))) (VP.vr vp_int))) (VP.vr vp_int))
     (vss_one (vs_put 5 (VP.ve (vp_add (VP.vr (vp_ix (vr_var 5) (VP.vr vp_int))) (VP.vr (vp_ix (vr_var 2) (VP.vr (vp_mod (VP.vr (vp_fdiv (vr_var 0) (VP.vr vp_int))) (VP.vr vp_int))))))) (VP.vr vp_int)))
     vss_nil)
   (vss_one (vs_ret (vx_give 5 np)))))))))),fun _=>?_⟩
 obtain ⟨c,m,rfl,hm2,hm20,hq⟩:=hG
 have e12:(10:Int) ^ (12:Int).toNat=1000000000000:=ten12
 have hz:(1:Int)+c % (10:Int) ^ (12:Int).toNat % 7=(szN c:Int):=by rw [e12]; exact (sz_eq c).symm
 have hsz:=sz_pos c
 refine ⟨⟨by decide,by decide,by decide⟩,(by show (0:Int) < 10 ^ (12:Int).toNat; decide),(by show (0:Int) < 7; decide),⟨by decide,by decide⟩,(by show (0:Int) < 1+c % 10 ^ (12:Int).toNat % 7; rw [hz]; omega),Nat.zero_le _,by omega,by omega,?_⟩
 refine loop_range (fun k ρ=>∃ kv wv jv nv,ρ=[some (.int (c12 c),false),some (.int (m:Int),false),some (.str letters,false),some (.int (szN c:Int),false),some (.int (atN c:Int),false),some (.lst (((List.range k).map fun k=>wordK c k (szN c)).map .str),true),kv,wv,jv,nv]) ⟨none,none,none,none,?_⟩ ?_ ?_
 · have ha:c % (10:Int) ^ (12:Int).toNat / 7 % (1+c % (10:Int) ^ (12:Int).toNat % 7)=(atN c:Int):=by rw [hz,e12]; exact (at_eq c).symm
   show [some (T.int (c % (10:Int) ^ (12:Int).toNat),false),_,_,some (T.int (1+c % (10:Int) ^ (12:Int).toNat % 7),false),some (T.int (c % (10:Int) ^ (12:Int).toNat / 7 % (1+c % (10:Int) ^ (12:Int).toNat % 7)),false),_,_,_,_,_]=_
   rw [ha,hz,e12]
   rfl
 · rintro k ρ hk ⟨kv,wv,jv,nv,rfl⟩
   refine ⟨by omega,by omega,?_⟩
   refine loop_range (fun j ρ=>∃ jv nv,ρ=[some (.int (c12 c),false),some (.int (m:Int),false),some (.str letters,false),some (.int (szN c:Int),false),some (.int (atN c:Int),false),some (.lst (((List.range k).map fun k=>wordK c k (szN c)).map .str),true),some (.int (0+(k:Int)),false),some (.str (wordK c k j),false),jv,nv]) ⟨_,_,rfl⟩ ?_ ?_
   · rintro j ρ hj ⟨jv,nv,rfl⟩
     have hj':j < szN c:=by omega
     refine ⟨⟨by decide,by decide⟩,⟨by show (0:Int) < 0+(j:Int)+1; omega,by show 0+(j:Int)+1 < 1073741824; omega⟩,.inl ⟨by show -(2 ^ 64) < 0+(j:Int); omega,by show 0+(j:Int) < 2 ^ 64; omega⟩,?_⟩
     have last:∀ n:Int,n=numJ c k j→∃ c',atI letters.cps.toList (n % 26)=some c'∧(wordK c k j).length+(Str.mk #[c']).length≤sizeLine∧(wordK c k j ++ ⟨#[c']⟩)=wordK c k (j+1):=by
      rintro n rfl
      refine ⟨_,letter_at _,?_,(wordK_succ c k j).symm⟩
      rw [wordK_len,sizeLine_eq]
      show j+1≤16777216
      omega
     refine iteD (fun h=>?_) (fun h=>?_)
     · have hja:j=atN c:=by have h:(0:Int)+(j:Int)=(atN c:Int):=h; omega
       obtain ⟨c',h1,h2,h3⟩:=last (c12 c / 49 / (0+(j:Int)+1)+(0+(j:Int)) * (0+(j:Int))+(0+(k:Int))) (by unfold numJ; rw [if_pos hja]; simp only [Int.zero_add])
       exact ⟨by show (0:Int) < 26; decide,letters_small,c',h1,h2,_,_,by rw [← h3]; rfl⟩
     · have hja:¬ j=atN c:=fun z=>h (by show (0:Int)+(j:Int)=(atN c:Int); omega)
       obtain ⟨c',h1,h2,h3⟩:=last (c12 c / 49 / (0+(j:Int)+1)+(0+(j:Int)) * (0+(j:Int))) (by unfold numJ; rw [if_neg hja]; simp only [Int.zero_add,Int.add_zero])
       exact ⟨by show (0:Int) < 26; decide,letters_small,c',h1,h2,_,_,by rw [← h3]; rfl⟩
   · rintro ρ ⟨jv,nv,rfl⟩
     refine ⟨?_,some (.int (0+(k:Int)),false),some (.str (wordK c k (szN c)),false),jv,nv,?_⟩
     · rw [List.length_map,List.length_map,List.length_range,sizeLine_eq]; omega
     · rw [List.range_succ,List.map_append,List.map_append]; rfl
 · rintro ρ ⟨kv,wv,jv,nv,rfl⟩
   refine ⟨⟨by decide,by decide⟩,(by show (0:Int) < 3; decide),iteD (fun h=>?_) (fun h=>?_)⟩
   · have hc:c12 c / 49 % 3=1:=h
     have e0:atI (((List.range m).map fun k=>wordK c k (szN c)).map T.str) 0=some (T.str (wordK c 0 (szN c))):=by
      refine atI_nat (j:=0) ?_
      rw [List.getElem?_map,List.getElem?_map,List.getElem?_range (by omega)]
      rfl
     refine ⟨_,e0,⟨by decide,by decide⟩,(by show (0:Int) < 26; decide),letters_small,_,letter_at _,?_,1,?_,?_⟩
     · rw [wordK_len,sizeLine_eq]
       show szN c+1≤16777216
       omega
     · unfold ixN
       rw [if_pos (by decide),if_pos (by rw [List.length_map,List.length_map,List.length_range]; omega)]
       rfl
     · have e:(wordsL c m).map T.str=(((List.range m).map fun k=>wordK c k (szN c)).map T.str).set 1 (T.str (wordK c 0 (szN c) ++ ⟨#[letC (c12 c / 147)]⟩)):=by
        unfold wordsL
        rw [if_pos hc,List.map_set]
       rw [e] at hq
       exact hq
   · have hc:¬ c12 c / 49 % 3=1:=h
     have e:(wordsL c m).map T.str=(((List.range m).map fun k=>wordK c k (szN c)).map T.str):=by
      unfold wordsL
      rw [if_neg hc]
     rw [e] at hq
     exact hq
end
end GenV
namespace K21L
open PySem L2 VT Gen K5 Lay BS K20
open PySem.Builtin (bitOr)
noncomputable def top (i:Nat):Stmt:=PySem.Challenge.pw_slicewise_k21_names_put_about.main.body.getD i (.Pass ⟨0,0,0,0⟩)
noncomputable abbrev s_first_defs:Stmt:=top 12
noncomputable abbrev s_shape:Stmt:=top 13
noncomputable abbrev s_makers:Stmt:=top 18
noncomputable abbrev s_holds:Stmt:=top 19
noncomputable abbrev s_list_of:Stmt:=top 20
noncomputable abbrev s_grown:Stmt:=top 21
noncomputable abbrev s_wants:Stmt:=top 22
noncomputable abbrev s_cell_at:Stmt:=top 26
noncomputable abbrev s_words:Stmt:=top 27
noncomputable abbrev s_same:Stmt:=top 28
noncomputable abbrev s_row:Stmt:=top 29
noncomputable abbrev s_program:Stmt:=top 30
noncomputable abbrev s_due:Stmt:=top 31
noncomputable abbrev s_law:Stmt:=top 32
theorem le8 {n:Nat} (h:n≤1000):n≤sizeLine:=Gen.small h
noncomputable def okW (ys:List Str):Rw→Prop
 | .new x=>x∈ys
 | .put x _=>x∈ys
 | .dow _ _ _ _=>True
 | _=>False
noncomputable def gRow (ts:List T) (q:Rt→Prop):Prop:=∃ (c:Int) (ys:List Str),ts=[.int c,.lst (ys.map .str)]∧ys.length=4∧∀ r,okW ys r→q (.vw (rowT r))
theorem wat {ys:List Str} (h:ys.length=4) (n:Int):∃ y,y∈ys∧atI (ys.map T.str) (n % 4)=some (.str y):=by
 have h0:=Int.emod_nonneg n (show (4:Int)≠0 by decide)
 have h1:=Int.emod_lt_of_pos n (show (0:Int) < 4 by decide)
 obtain ⟨j,hj⟩:=Int.eq_ofNat_of_zero_le h0
 have hl:j < ys.length:=by omega
 refine ⟨ys[j],List.getElem_mem hl,?_⟩
 rw [hj]
 exact atI_nat (by rw [List.getElem?_map,List.getElem?_eq_getElem hl]; rfl)
section
variable {P:Program} {w:World} {K:PySem.W.Frag} {mg:Str→Option Value} {base:Heap}
noncomputable abbrev n_row:List Str:=["_law_cell","_law_words_here","_law_kind","_law_name","_law_other"]
theorem sc_row:FnScope n_row ["_law_cell","_law_words_here"] (defScope s_row):=⟨rfl,rfl,rfl,by decide +kernel,rfl,by decide +kernel,by decide +kernel⟩
theorem ok_row {f:Addr} {fd:FuncData} (D:Df K mg "_law_row" s_row ["_law_cell","_law_words_here"] f fd):Cal P w K mg base "_law_row" ["_law_cell","_law_words_here"] 1 (spP K 2 gRow):=by
 refine D.cal (fnP D.F sc_row rfl fun cdv A outer s H E Ox hr ts q hG=>?_)
 have nd:=sc_row.nd
 have hu:=Room.u101 hr
 have np:∀ {i:Nat},NotPar ⟨H,[],Ox⟩ i:=np0
 have npf:∀ {is:List Nat},∀ i∈is,NotPar ⟨H,[],Ox⟩ i:=fun i _=>np0
 refine ⟨_,(vss_cons (vs_set (i:=2) nd rfl (Or.inl rfl) (VP.vx (vp_mod (vr_var 0) (VP.vr vp_int))) np)
   (vss_cons (vs_set (i:=3) nd rfl (Or.inl rfl) (VP.vx (vp_ix (vr_var 1) (VP.vr (vp_mod (VP.vr (vp_fdiv (vr_var 0) (VP.vr vp_int))) (VP.vr vp_int))))) np)
   (vss_cons (vs_set (i:=4) nd rfl (Or.inl rfl) (VP.vx (vp_ix (vr_var 1) (VP.vr (vp_mod (VP.vr (vp_fdiv (vr_var 0) (VP.vr vp_int))) (VP.vr vp_int))))) np)
   (vss_cons (vs_if (vc_lt (vr_var 2) (VP.vr vp_int))
     (vss_one (vs_ret (VP.vx (vp_tup (va_cons (VP.ve vp_str) (va_cons (ve_var 3) va_nil))))))
     vss_nil)
   (vss_cons (vs_if (vc_lt (vr_var 2) (VP.vr vp_int))
     (vss_one (vs_ret (VP.vx (vp_tup (va_cons (VP.ve vp_str) (va_cons (ve_var 3) (va_cons (ve_var 4) va_nil)))))))
     vss_nil)
   (vss_cons (vs_if (vc_eq hu (vr_var 2) (VP.vr vp_int))
     (vss_one (vs_ret (VP.vx (vp_tup (va_cons (VP.ve vp_str) (va_cons (ve_var 3) (va_cons (VP.ve (vp_sub (VP.vr (vp_mod (VP.vr (vp_fdiv (vr_var 0) (VP.vr vp_int))) (VP.vr (vp_mul (VP.vr vp_int) (VP.vr (vp_pow (VP.vr vp_int) (VP.vr vp_int))))))) (VP.vr (vp_pow (VP.vr vp_int) (VP.vr vp_int))))) va_nil)))))))
     vss_nil)
   (vss_one (vs_ret (VP.vx (vp_tup (va_cons (VP.ve vp_str) (va_cons (ve_var 3) (va_cons (ve_var 4) (va_cons (VP.ve (vp_ix (VP.vr (vp_lst (va_cons (VP.ve vp_str) (va_cons (VP.ve vp_str) (va_cons (VP.ve vp_str) va_nil))))) (VP.vr (vp_mod (VP.vr (vp_fdiv (vr_var 0) (VP.vr vp_int))) (VP.vr vp_int))))) (va_cons (VP.ve (vp_ix (vr_var 1) (VP.vr (vp_mod (VP.vr (vp_fdiv (vr_var 0) (VP.vr vp_int))) (VP.vr vp_int))))) va_nil))))))))))))))),fun _=>?_⟩
 obtain ⟨c,ys,rfl,h4,hq⟩:=hG
 obtain ⟨x,hx,ex⟩:=wat h4 (c / 8)
 obtain ⟨y,hy,ey⟩:=wat h4 (c / 32)
 obtain ⟨z,hz,ez⟩:=wat h4 (c / 384)
 obtain ⟨op,eo⟩:∃ op:Str,atI [T.str (Str.ofString "plus"),.str (Str.ofString "same"),.str (Str.ofString "over")] (c / 128 % 3)=some (.str op):=by
  have h0:=Int.emod_nonneg (c / 128) (show (3:Int)≠0 by decide)
  have h1:=Int.emod_lt_of_pos (c / 128) (show (0:Int) < 3 by decide)
  obtain ⟨j,hj⟩:=Int.eq_ofNat_of_zero_le h0
  rw [hj]
  have hl:j < 3:=by omega
  match j,hl with
  | 0,_=>exact ⟨_,atI_nat rfl⟩
  | 1,_=>exact ⟨_,atI_nat rfl⟩
  | 2,_=>exact ⟨_,atI_nat rfl⟩
 refine ⟨(by show (0:Int) < 8; decide),⟨by decide,by decide⟩,(by show (0:Int) < 4; decide),_,ex,⟨by decide,by decide⟩,(by show (0:Int) < 4; decide),_,ey,?_⟩
 refine iteD (fun _=>?_) (fun _=>iteD (fun _=>?_) (fun _=>iteD (fun _=>?_) (fun _=>?_)))
 · exact ⟨le8 (by simp),hq (.new x) hx⟩
 · exact ⟨le8 (by simp),hq (.put x (.nm y)) hx⟩
 · exact ⟨⟨by decide,by decide⟩,⟨by decide,by decide,by decide⟩,.inl ⟨by decide,by decide⟩,(by show (0:Int) < 2 * 10 ^ (30:Int).toNat; decide),⟨by decide,by decide,by decide⟩,le8 (by simp),hq (.put x (.nu _)) hx⟩
 · exact ⟨le8 (by simp),⟨by decide,by decide⟩,(by show (0:Int) < 3; decide),_,eo,⟨by decide,by decide⟩,(by show (0:Int) < 4; decide),_,ez,le8 (by simp),hq (.dow x (.nm y) op (.nm z)) trivial⟩
end
end K21L
namespace K21L
open PySem L2 VT Gen K5 Lay BS K20
open PySem.Builtin (bitOr)
noncomputable def progR (a:Nat) (f:Str) (ps:List Str) (body:List Rw) (g:Str) (b:Nat):List Rw:=List.replicate a .skip ++ ([.df f ps] ++ (body ++ ([.give (.nm g)] ++ List.replicate b .skip)))
noncomputable def gProg (ts:List T) (q:Rt→Prop):Prop:=∃ (ns:List Int) (ys:List Str),ts=[.lst (ns.map .int),.lst (ys.map .str)]∧ys.length=4∧ns.length≤63∧∀ (a:Nat) f ps body g b,(a:Int)=ns.getD 1 0 % 4→body.length≤63→b≤2→(∀ r∈body,okW ys r)→q (.fr (.lst ((progR a f ps body g b).map rowT)))
structure MgE (mg:Str→Option Value):Prop where
 range:mg "range" = none
 tuple:mg "tuple" = none
theorem ex_map {α:Type} {Pd:α→Prop} {f:α→T}:∀ {us:List T},(∀ x∈us,∃ y,Pd y∧x=f y)→∃ as:List α,us=as.map f∧as.length=us.length∧∀ y∈as,Pd y
 | [],_=>⟨[],rfl,rfl,fun y h=>nomatch h⟩
 | u :: us,h=>by
   obtain ⟨y,h1,h2⟩:=h u List.mem_cons_self
   obtain ⟨as,e,el,ha⟩:=ex_map fun x hx=>h x (List.mem_cons_of_mem _ hx)
   refine ⟨y :: as,by rw [List.map_cons,← e,h2],by simp [el],fun z hz=>?_⟩
   rcases List.mem_cons.mp hz with q | q
   · rw [q]; exact h1
   · exact ha z q
theorem cut_map {α:Type} (f:α→T) (ns:List α) (lo hi:Option Int):∃ ms:List α,cutT (ns.map f) lo hi=ms.map f∧ms.length≤ns.length:=by
 unfold cutT
 rw [List.length_map,← List.map_drop,← List.map_take]
 refine ⟨_,rfl,?_⟩
 rw [List.length_take,List.length_drop]
 omega
theorem range_skip (n:Nat):(List.range n).map (fun _=>T.tup [T.str (Str.ofString "skip")])=(List.replicate n Rw.skip).map rowT:=by
 rw [List.map_replicate,List.map_const']
 simp only [List.length_range]; rfl
section
variable {P:Program} {w:World} {K:PySem.W.Frag} {mg:Str→Option Value} {base:Heap}
noncomputable abbrev n_program:List Str:=["_law_script","_law_words_here","_law_head","_law_rows","_law_parameters"]
theorem sc_program:FnScope n_program ["_law_script","_law_words_here"] (defScope s_program):=⟨rfl,rfl,rfl,by decide +kernel,rfl,by decide +kernel,by decide +kernel⟩
theorem nd_program_c0:(n_program ++ (["_law_k"]:List Str)).Nodup:=by decide +kernel
theorem nd_program_c1:(n_program ++ (["_law_j"]:List Str)).Nodup:=by decide +kernel
theorem nd_program_c2:(n_program ++ (["_law_cell"]:List Str)).Nodup:=by decide +kernel
theorem nd_program_c3:(n_program ++ (["_law_k"]:List Str)).Nodup:=by decide +kernel
theorem ok_program {f:Addr} {fd:FuncData} (D:Df K mg "_law_program" s_program ["_law_script","_law_words_here"] f fd) (M:MgE mg) (C_cell_at:Cal P w K mg base "_law_cell_at" ["_law_script","_law_k"] 1 (spP K 2 GenV.gCell)) (C_row:Cal P w K mg base "_law_row" ["_law_cell","_law_words_here"] 1 (spP K 2 gRow)):Cal P w K mg base "_law_program" ["_law_script","_law_words_here"] 2 (spP K 2 gProg):=by
 obtain ⟨f_cell_at,fd_cell_at,m_cell_at,k_cell_at,b_cell_at,F_cell_at⟩:=C_cell_at
 obtain ⟨f_row,fd_row,m_row,k_row,b_row,F_row⟩:=C_row
 refine D.cal (fnP D.F sc_program rfl fun cdv A outer s H E Ox hr ts q hG=>?_)
 have nd:=sc_program.nd
 have hu:=Room.u101 hr
 have np:∀ {i:Nat},NotPar ⟨H,[],Ox⟩ i:=np0
 have npf:∀ {is:List Nat},∀ i∈is,NotPar ⟨H,[],Ox⟩ i:=fun i _=>np0
 refine ⟨_,(vss_cons (vs_set (i:=2) nd rfl (Or.inr rfl) (VP.vx (vp_call F_cell_at (hr.mono (by decide)) (by rfl) m_cell_at k_cell_at b_cell_at (va_cons (ve_var 0) (va_cons (VP.ve vp_int) va_nil)))) np)
   (vss_cons (vs_compO (i:=3) (ts:=["_law_k"]) nd rfl (Or.inl rfl) rfl (by rfl) (vi_range1 (by rfl) M.range (VP.vr (vp_mod (vr_var 2) (VP.vr vp_int)))) (fun _ _ _ _ _ _=>(vg_name (i:=5) nd_program_c0 rfl (Or.inl rfl) np)) (fun _ _ _ _ _ _=>vcs_nil) (fun _ _ _ _ _ _=>(VP.ve (vp_tup (va_cons (VP.ve vp_str) va_nil)))) np)
   (vss_cons (vs_comp (i:=4) (ts:=["_law_j"]) nd rfl (Or.inl rfl) rfl (by rfl) (vi_range1 (by rfl) M.range (VP.vr (vp_mod (VP.vr (vp_fdiv (vr_var 2) (VP.vr vp_int))) (VP.vr vp_int)))) (fun _ _ _ _ _ _=>(vg_name (i:=5) nd_program_c1 rfl (Or.inl rfl) np)) (fun _ _ _ _ _ _=>vcs_nil) (fun _ _ _ _ _ _=>(VP.ve (vp_ix (vr_var 1) (VP.vr (vp_mod (VP.vr (vp_add (VP.vr (vp_fdiv (vr_var 2) (VP.vr vp_int))) (vr_var 5))) (VP.vr vp_int)))))) np)
   (vss_cons (vs_expr (vx_bm 3 PySem.F.slot_list_append PySem.F.type_list_append mt_append mtT_append (va_cons (VP.ve (vp_tup (va_cons (VP.ve vp_str) (va_cons (VP.ve (vp_ix (vr_var 1) (VP.vr (vp_mod (VP.vr (vp_fdiv (vr_var 2) (VP.vr vp_int))) (VP.vr vp_int))))) (va_cons (VP.ve (vp_callTy call_tuple_of callT_tuple (by rfl) M.tuple b_tuple (var_cons (vr_var 4) var_nil))) va_nil))))) va_nil)))
   (vss_cons (vs_own (i:=3) nd rfl (Or.inl rfl) (VP.vx (vp_add (vr_var 3) (VP.vr (vp_comp (ts:=["_law_cell"]) rfl (by rfl) (vi_seq (VP.ve (vp_slice (vr_var 0) (vo_some (VP.vr vp_int)) (vo_some (VP.vr vp_int))))) (fun _ _ _ _ _ _=>(vg_name (i:=5) nd_program_c2 rfl (Or.inl rfl) np)) (fun _ _ _ _ _ _=>vcs_nil) (fun _ _ _ _ _ _=>(VP.ve (vp_call F_row (hr.mono (by decide)) (by rfl) m_row k_row b_row (va_cons (ve_var 5) (va_cons (ve_var 1) va_nil))))))))) np)
   (vss_cons (vs_expr (vx_bm 3 PySem.F.slot_list_append PySem.F.type_list_append mt_append mtT_append (va_cons (VP.ve (vp_tup (va_cons (VP.ve vp_str) (va_cons (VP.ve (vp_ix (vr_var 1) (VP.vr (vp_mod (VP.vr (vp_call F_cell_at (hr.mono (by decide)) (by rfl) m_cell_at k_cell_at b_cell_at (va_cons (ve_var 0) (va_cons (VP.ve vp_int) va_nil)))) (VP.vr vp_int))))) va_nil)))) va_nil)))
   (vss_one (vs_ret (VP.vx (vp_add (vr_var 3) (VP.vr (vp_comp (ts:=["_law_k"]) rfl (by rfl) (vi_range1 (by rfl) M.range (VP.vr (vp_mod (VP.vr (vp_fdiv (VP.vr (vp_call F_cell_at (hr.mono (by decide)) (by rfl) m_cell_at k_cell_at b_cell_at (va_cons (ve_var 0) (va_cons (VP.ve vp_int) va_nil)))) (VP.vr vp_int))) (VP.vr vp_int)))) (fun _ _ _ _ _ _=>(vg_name (i:=5) nd_program_c3 rfl (Or.inl rfl) np)) (fun _ _ _ _ _ _=>vcs_nil) (fun _ _ _ _ _ _=>(VP.ve (vp_tup (va_cons (VP.ve vp_str) va_nil)))))))))))))))),fun _=>?_⟩
 obtain ⟨ns,ys,rfl,h4,h63,hq⟩:=hG
 obtain ⟨a,ea⟩:=Int.eq_ofNat_of_zero_le (Int.emod_nonneg (ns.getD 1 0) (show (4:Int)≠0 by decide))
 obtain ⟨b,eb⟩:=Int.eq_ofNat_of_zero_le (Int.emod_nonneg (ns.getD 2 0 / 4) (show (3:Int)≠0 by decide))
 obtain ⟨m,em⟩:=Int.eq_ofNat_of_zero_le (Int.emod_nonneg (ns.getD 1 0 / 16) (show (3:Int)≠0 by decide))
 have la:=Int.emod_lt_of_pos (ns.getD 1 0) (show (0:Int) < 4 by decide)
 have lb:=Int.emod_lt_of_pos (ns.getD 2 0 / 4) (show (0:Int) < 3 by decide)
 have lm:=Int.emod_lt_of_pos (ns.getD 1 0 / 16) (show (0:Int) < 3 by decide)
 obtain ⟨f,_,ef⟩:=wat h4 (ns.getD 1 0 / 48)
 obtain ⟨g,_,eg⟩:=wat h4 (ns.getD 2 0)
 have ra:rangeT 0 (ns.getD 1 0 % 4).toNat=rangeT 0 a:=by rw [ea]; rfl
 have rb:rangeT 0 (ns.getD 2 0 / 4 % 3).toNat=rangeT 0 b:=by rw [eb]; rfl
 have rm:rangeT 0 (ns.getD 1 0 / 16 % 3).toNat=rangeT 0 m:=by rw [em]; rfl
 have rl:∀ n,(rangeT 0 n).length=n:=fun n=>by unfold rangeT; simp
 refine ⟨rfl,ns,1,rfl,rfl,(by show (0:Int) < 4; decide),(by show -(2 ^ 62:Int)≤ns.getD 1 0 % 4; omega),(by show ns.getD 1 0 % 4 < (2 ^ 62:Int); omega),?_⟩
 show (rangeT 0 (ns.getD 1 0 % 4).toNat).length≤sizeLine∧wComp _ _ _ _ (rangeT 0 (ns.getD 1 0 % 4).toNat) _
 rw [ra]
 refine ⟨by rw [rl]; exact le8 (by omega),wComp_range (u:=fun _=>.tup [.str (Str.ofString "skip")]) (fun i hi r hr=>⟨le8 (by simp),hr⟩) ?_⟩
 refine ⟨rfl,⟨by decide,by decide⟩,(by show (0:Int) < 3; decide),(by show -(2 ^ 62:Int)≤ns.getD 1 0 / 16 % 3; omega),(by show ns.getD 1 0 / 16 % 3 < (2 ^ 62:Int); omega),?_⟩
 show (rangeT 0 (ns.getD 1 0 / 16 % 3).toNat).length≤sizeLine∧wComp _ _ _ _ (rangeT 0 (ns.getD 1 0 / 16 % 3).toNat) _
 rw [rm]
 refine ⟨by rw [rl]; exact le8 (by omega),wComp_pr (Pd:=fun x=>∃ y:Str,True∧x=T.str y) (fun t ht r hr=>?_) fun us hus hp=>?_⟩
 · obtain ⟨i,_,rfl⟩:=List.mem_map.mp ht
   obtain ⟨y,_,ey⟩:=wat h4 (ns.getD 1 0 / 4+(0+(i:Int)))
   exact ⟨⟨by decide,by decide⟩,(by show (0:Int) < 4; decide),_,ey,hr _ ⟨y,trivial,rfl⟩⟩
 obtain ⟨ps,rfl,lps,_⟩:=ex_map hp
 rw [rl] at hus
 rw [List.length_map] at hus
 have l1:((List.range a).map fun _=>T.tup [T.str (Str.ofString "skip")]).length=a:=by simp
 refine ⟨⟨by decide,by decide⟩,(by show (0:Int) < 4; decide),_,ef,le8 (by simp),(by show ((List.range a).map fun _=>T.tup [T.str (Str.ofString "skip")]).length < sizeLine; rw [l1,sizeLine_eq]; omega),?_⟩
 obtain ⟨ms,ems,hms⟩:=cut_map T.int ns (some 3) (some 53)
 refine ⟨rfl,?_⟩
 show (cutT (ns.map T.int) (some 3) (some 53)).length≤sizeLine∧wComp _ _ _ _ (cutT (ns.map T.int) (some 3) (some 53)) _
 rw [ems]
 refine ⟨by rw [List.length_map]; exact le8 (by omega),wComp_pr (Pd:=fun x=>∃ r:Rw,okW ys r∧x=rowT r) (fun t ht r hr=>?_) fun us hus2 hp2=>?_⟩
 · obtain ⟨c,_,rfl⟩:=List.mem_map.mp ht
   exact ⟨rfl,c,ys,rfl,h4,fun r' h'=>hr _ ⟨r',h',rfl⟩⟩
 obtain ⟨body,rfl,lbo,hbo⟩:=ex_map hp2
 rw [List.length_map,List.length_map] at hus2
 rw [range_skip] at *
 refine ⟨(by show (((List.replicate a Rw.skip).map rowT) ++ [rowT (.df f ps)]).length+(body.map rowT).length≤sizeLine; rw [List.length_append,List.length_map,List.length_map,List.length_replicate,List.length_singleton]; exact le8 (by omega)),?_⟩
 refine ⟨rfl,ns,2,rfl,(by show (0:Int) < 4; decide),_,eg,le8 (by simp),(by show (((List.replicate a Rw.skip).map rowT ++ [rowT (.df f ps)]) ++ body.map rowT).length < sizeLine; rw [List.length_append,List.length_append,List.length_map,List.length_map,List.length_replicate,List.length_singleton,sizeLine_eq]; omega),?_⟩
 refine ⟨rfl,rfl,ns,2,rfl,⟨by decide,by decide⟩,(by show (0:Int) < 3; decide),(by show -(2 ^ 62:Int)≤ns.getD 2 0 / 4 % 3; omega),(by show ns.getD 2 0 / 4 % 3 < (2 ^ 62:Int); omega),?_⟩
 show (rangeT 0 (ns.getD 2 0 / 4 % 3).toNat).length≤sizeLine∧wComp _ _ _ _ (rangeT 0 (ns.getD 2 0 / 4 % 3).toNat) _
 rw [rb]
 refine ⟨by rw [rl]; exact le8 (by omega),wComp_range (u:=fun _=>.tup [.str (Str.ofString "skip")]) (fun i hi r hr=>⟨le8 (by simp),hr⟩) ?_⟩
 rw [range_skip]
 refine ⟨(by show ((((List.replicate a Rw.skip).map rowT ++ [rowT (.df f ps)]) ++ body.map rowT) ++ [rowT (.give (.nm g))]).length+((List.replicate b Rw.skip).map rowT).length≤sizeLine; simp only [List.length_append,List.length_map,List.length_replicate,List.length_singleton]; exact le8 (by omega)),?_⟩
 have fin:=hq a f ps body g b ea.symm (by omega) (by omega) hbo
 have e:(progR a f ps body g b).map rowT=((((List.replicate a Rw.skip).map rowT ++ [rowT (.df f ps)]) ++ body.map rowT) ++ [rowT (.give (.nm g))]) ++ (List.replicate b Rw.skip).map rowT:=by
  unfold progR
  simp only [List.map_append,List.append_assoc,List.map_cons,List.map_nil]
 rw [e] at fin
 exact fin
end
end K21L
namespace K21L
open PySem L2 VT Gen K5 Lay BS K20
theorem kind_ok {ys:List Str} {r:Rw} (h:okW ys r):kindR r=⟨false,false,false,false⟩:=by
 cases r <;> first | rfl | exact h.elim
section
variable {a:Nat} {f:Str} {ps:List Str} {body:List Rw} {g:Str} {b:Nat} {ys:List Str}
theorem prog_len:(progR a f ps body g b).length=a+1+body.length+1+b:=by
 unfold progR
 simp only [List.length_append,List.length_replicate,List.length_cons,List.length_nil]
 omega
theorem prog_at {i:Nat} {r:Rw} (h:(progR a f ps body g b)[i]?=some r):(i < a∧r = .skip)∨(i=a∧r = .df f ps)∨(∃ j,i=a+1+j∧body[j]?=some r)∨(∃ o,r = .give o)∨r = .skip:=by
 unfold progR at h
 by_cases h1:i < a
 · rw [List.getElem?_append_left (by simpa using h1),List.getElem?_replicate,if_pos h1] at h
   cases h
   exact .inl ⟨h1,rfl⟩
 · rw [List.getElem?_append_right (by simpa using h1),List.length_replicate] at h
   cases q:i - a with
   | zero =>
     rw [q] at h
     cases h
     exact .inr (.inl ⟨by omega,rfl⟩)
   | succ j =>
     rw [q] at h
     change (body ++ ([Rw.give (.nm g)] ++ List.replicate b .skip))[j]?=some r at h
     by_cases h2:j < body.length
     · rw [List.getElem?_append_left h2] at h
       exact .inr (.inr (.inl ⟨j,by omega,h⟩))
     · rw [List.getElem?_append_right (by omega)] at h
       cases q2:j - body.length with
       | zero =>
         rw [q2] at h
         cases h
         exact .inr (.inr (.inr (.inl ⟨_,rfl⟩)))
       | succ k =>
         rw [q2] at h
         change (List.replicate b Rw.skip)[k]?=some r at h
         rw [List.getElem?_replicate] at h
         split at h
         · cases h; exact .inr (.inr (.inr (.inr rfl)))
         · cases h
theorem prog_0 {i:Nat} (h:i < a):(progR a f ps body g b)[i]?=some .skip:=by
 unfold progR
 rw [List.getElem?_append_left (by simpa using h),List.getElem?_replicate,if_pos h]
theorem prog_1:(progR a f ps body g b)[a]?=some (.df f ps):=by
 unfold progR
 rw [List.getElem?_append_right (by simp),List.length_replicate,Nat.sub_self]; rfl
theorem prog_2 {j:Nat} (h:j < body.length):(progR a f ps body g b)[a+1+j]?=some body[j]:=by
 unfold progR
 rw [List.getElem?_append_right (by rw [List.length_replicate]; omega),List.length_replicate,show a+1+j - a=j+1 by omega]
 change (body ++ ([Rw.give (.nm g)] ++ List.replicate b .skip))[j]?=_
 rw [List.getElem?_append_left h,List.getElem?_eq_getElem h]
theorem st_0:∀ k,k≤a→st (kdR (progR a f ps body g b)) k=[]
 | 0,_=>rfl
 | k+1,hk=>by
   have e:=kdR_at (prog_0 (a:=a) (f:=f) (ps:=ps) (body:=body) (g:=g) (b:=b) (i:=k) (by omega))
   rw [st_ot (by rw [e]; rfl) (by rw [e]; rfl)]
   exact st_0 k (by omega)
theorem st_1 (hb:∀ r∈body,okW ys r):∀ j,j≤body.length→st (kdR (progR a f ps body g b)) (a+1+j)=[a]
 | 0,_=>by
   have e:=kdR_at (prog_1 (a:=a) (f:=f) (ps:=ps) (body:=body) (g:=g) (b:=b))
   rw [Nat.add_zero,st_op (by rw [e]; rfl) (by rw [e]; rfl),st_0 a (Nat.le_refl _)]; rfl
 | j+1,hj=>by
   have e:=kdR_at (prog_2 (a:=a) (f:=f) (ps:=ps) (body:=body) (g:=g) (b:=b) (j:=j) (by omega))
   rw [kind_ok (hb _ (List.getElem_mem _))] at e
   rw [← Nat.add_assoc,st_ot (by rw [e]) (by rw [e])]
   exact st_1 hb j (by omega)
theorem home_of (hb:∀ r∈body,okW ys r) {j:Nat} (hj:j < body.length):hmF (kdR (progR a f ps body g b)) (a+1+j)=some a:=by
 unfold hmF
 have e:=kdR_at (prog_2 (a:=a) (f:=f) (ps:=ps) (body:=body) (g:=g) (b:=b) hj)
 rw [kind_ok (hb _ (List.getElem_mem _))] at e
 rw [e,if_neg (by decide),st_1 hb j (by omega)]; rfl
theorem prog_hyp (hb:∀ r∈body,okW ys r):K21V.Hyp (progR a f ps body g b) ys a:=by
 refine ⟨fun i x h=>?_,fun i x o h=>?_⟩
 · rcases prog_at h with ⟨_,z⟩ | ⟨_,z⟩ | ⟨j,rfl,z⟩ | ⟨_,z⟩ | z
   · cases z
   · cases z
   · exact ⟨hb _ (List.mem_of_getElem? z),home_of hb (List.getElem?_eq_some_iff.mp z).1⟩
   · cases z
   · cases z
 · rcases prog_at h with ⟨_,z⟩ | ⟨_,z⟩ | ⟨j,rfl,z⟩ | ⟨_,z⟩ | z
   · cases z
   · cases z
   · exact ⟨hb _ (List.mem_of_getElem? z),home_of hb (List.getElem?_eq_some_iff.mp z).1⟩
   · cases z
   · cases z
theorem prog_ok (hb:∀ r∈body,okW ys r):∀ r∈progR a f ps body g b,K21V.okR r=true:=fun r hr=>by
 obtain ⟨i,hi⟩:=List.mem_iff_getElem?.mp hr
 rcases prog_at hi with ⟨_,z⟩ | ⟨_,z⟩ | ⟨j,rfl,z⟩ | ⟨_,z⟩ | z
 · rw [z]; rfl
 · rw [z]; rfl
 · have:=hb _ (List.mem_of_getElem? z)
   cases r <;> first | rfl | exact this.elim
 · rw [z]; rfl
 · rw [z]; rfl
theorem dr_skip (d:Nat):∀ n,dr d (List.replicate n Rw.skip)=some d
 | 0=>rfl
 | n+1=>dr_skip d n
theorem dr_body {d:Nat}:∀ {body:List Rw},(∀ r∈body,okW ys r)→dr d body=some d
 | [],_=>rfl
 | r :: body,hb=>by
   have e:=kind_ok (hb r List.mem_cons_self)
   simp only [dr]
   rw [e]
   exact dr_body fun x hx=>hb x (List.mem_cons_of_mem _ hx)
theorem prog_wf (hb:∀ r∈body,okW ys r):WFR (progR a f ps body g b):=by
 refine wf_of ?_
 unfold progR
 rw [dr_app,dr_skip,Option.bind_some,dr_app,show dr 0 [Rw.df f ps]=some 1 from rfl,Option.bind_some,dr_app,dr_body hb,Option.bind_some,dr_app,show dr 1 [Rw.give (.nm g)]=some 0 from rfl,Option.bind_some,dr_skip]
end
end K21L
namespace K21L
open PySem L2 VT Gen K5 Lay BS K20 K21V
open PySem.Builtin (bitOr)
noncomputable def ksS (E:List Ent):List Key:=E.map fun e=>.inr e.1.2
theorem key_iff {h:Nat} {E:List Ent} (hk:∀ e∈E,e.1.1=(h:Int)) {e:Ent} (he:e∈E) (x:Str):((Sum.inr e.1.2:Key) = .inr x)↔e.1=((h:Int),x):=by
 constructor
 · intro q
   injection q with q
   exact Prod.ext (hk e he) q
 · intro q; rw [q]
theorem dGet_S {h:Nat} (x:Str):∀ {E:List Ent},(∀ e∈E,e.1.1=(h:Int))→(dGet (ksS E) (vsE E) (.inr x)).getD (.int 0) = .int (getE E ((h:Int),x))
 | [],_=>rfl
 | e :: E,hk=>by
   have ih:=dGet_S x (E:=E) fun e he=>hk e (List.mem_cons_of_mem _ he)
   have k:=key_iff hk List.mem_cons_self x
   show (if (Sum.inr e.1.2:Key) = .inr x then some (T.int e.2) else dGet (ksS E) (vsE E) (.inr x)).getD (.int 0) = .int (if e.1=((h:Int),x) then e.2 else getE E ((h:Int),x))
   by_cases z:e.1=((h:Int),x)
   · rw [if_pos z,if_pos (k.mpr z)]; rfl
   · rw [if_neg z,if_neg (fun q=>z (k.mp q))]; exact ih
theorem has_S {h:Nat} (x:Str):∀ {E:List Ent},(∀ e∈E,e.1.1=(h:Int))→hasK (ksS E) (.inr x)=hasE E ((h:Int),x)
 | [],_=>rfl
 | e :: E,hk=>by
   have ih:=has_S x (E:=E) fun e he=>hk e (List.mem_cons_of_mem _ he)
   have k:=key_iff hk List.mem_cons_self x
   unfold hasK ksS hasE at *
   rw [List.map_cons,List.any_cons,List.any_cons,ih,decide_eq_decide.mpr k]
theorem keys_S {h:Nat} {E:List Ent} (hk:∀ e∈E,e.1.1=(h:Int)) (x:Str) (v:Int):dKeys (ksS E) (.inr x)=ksS (putE E ((h:Int),x) v):=by
 unfold dKeys putE
 rw [has_S x hk]
 by_cases z:hasE E ((h:Int),x)=true
 · rw [if_pos z,if_pos z]
   unfold ksS
   rw [List.map_map]
   refine List.map_congr_left fun e _=>?_
   show (Sum.inr e.1.2:Key) = .inr (if e.1=((h:Int),x) then (e.1,v) else e).1.2
   split <;> rfl
 · rw [if_neg z,if_neg z]
   unfold ksS
   rw [List.map_append]; rfl
theorem vals_S {h:Nat} {E:List Ent} (hk:∀ e∈E,e.1.1=(h:Int)) (x:Str) (v:Int):dVals (ksS E) (vsE E) (.inr x) (.int v)=vsE (putE E ((h:Int),x) v):=by
 unfold dVals putE
 rw [has_S x hk]
 by_cases z:hasE E ((h:Int),x)=true
 · rw [if_pos z,if_pos z]
   clear z
   unfold ksS vsE
   induction E with
   | nil=>rfl
   | cons e E ih =>
     have k:=key_iff hk List.mem_cons_self x
     simp only [List.map_cons,List.zipWith_cons_cons]
     rw [ih fun e he=>hk e (List.mem_cons_of_mem _ he)]
     congr 1
     by_cases z:e.1=((h:Int),x)
     · rw [if_pos z,if_pos (k.mpr z)]
     · rw [if_neg z,if_neg (fun q=>z (k.mp q))]
 · rw [if_neg z,if_neg z]
   unfold vsE
   rw [List.map_append]; rfl
noncomputable abbrev dkS (E:List Ent):T:=.dk (ksS E) (vsE E)
noncomputable def gDue (ts:List T) (q:Rt→Prop):Prop:=∃ (rs:List Rw) (ys:List Str) (a:Nat),ts=[.lst (rs.map rowT)]∧rs.length≤100∧Hyp rs ys a∧ys.length=4∧(∀ r∈rs,okR r=true)∧q (.fr (dkS (lwT a rs 4)))
structure MgF (mg:Str→Option Value):Prop where
 range:mg "range" = none
 enumerate:mg "enumerate" = none
 isinstance:mg "isinstance" = none
 str:mg "str" = none
section
variable {P:Program} {w:World} {K:PySem.W.Frag} {mg:Str→Option Value} {base:Heap}
noncomputable abbrev n_due:List Str:=["_law_rows","_law_some","_law_k","_law_row_here","_law_turn"]
theorem sc_due:FnScope n_due ["_law_rows"] (defScope s_due):=⟨rfl,rfl,rfl,by decide +kernel,rfl,by decide +kernel,by decide +kernel⟩
theorem ok_due {f:Addr} {fd:FuncData} (D:Df K mg "_law_due" s_due ["_law_rows"] f fd) (M:MgF mg):Cal P w K mg base "_law_due" ["_law_rows"] 1 (spP K 1 gDue):=by
 refine D.cal (fnP D.F sc_due rfl fun cdv A outer s H E Ox hr ts q hG=>?_)
 have nd:=sc_due.nd
 have hu:=Room.u101 hr
 have np:∀ {i:Nat},NotPar ⟨H,[],Ox⟩ i:=np0
 have npf:∀ {is:List Nat},∀ i∈is,NotPar ⟨H,[],Ox⟩ i:=fun i _=>np0
 have hu1:=u1_of hu
 refine ⟨_,(vss_cons (vs_own (i:=1) nd rfl (Or.inl rfl) (VP.vx vp_dnew) np)
   (vss_cons (vs_for PassesOwn.never rfl (vi_enum (by rfl) M.enumerate (ve_var 0)) (vg_tup (n:=2) rfl (vgs_cons (vg_name (i:=2) nd rfl (Or.inl rfl) np) (vgs_cons (vg_name (i:=3) nd rfl (Or.inl rfl) np) vgs_nil)))
     (vss_one (vs_if (vc_eq hu (VP.vr (vp_ix (vr_var 3) (VP.vr vp_int))) (VP.vr vp_str))
       (vss_one (vs_dput 1 hu1 (VP.ve (vp_bor (VP.vr (vp_dg2 hu1 (vr_var 1) (VP.vr (vp_ix (vr_var 3) (VP.vr vp_int))) (VP.ve vp_int) ⟨rfl,rfl,rfl,rfl⟩)) (VP.vr (vp_shl (VP.vr vp_int) (vr_var 2))))) (VP.vr (vp_ix (vr_var 3) (VP.vr vp_int)))))
       vss_nil)))
   (vss_cons (vs_for PassesOwn.never rfl (vi_range1 (by rfl) M.range (VP.vr vp_int)) (vg_name (i:=4) nd rfl (Or.inl rfl) np)
     (vss_one (vs_for PassesOwn.never rfl (vi_seq (ve_var 0)) (vg_name (i:=3) nd rfl (Or.inl rfl) np)
       (vss_one (vs_if (VW.vc (vw_and (vc_eq hu (VP.vr (vp_ix (vr_var 3) (VP.vr vp_int))) (VP.vr vp_str)) (vw_and1 (vc_val (vp_inst inst_str (by rfl) M.isinstance (by rfl) M.str b_str (VP.vr (vp_ix (vr_var 3) (VP.vr vp_int))))))))
         (vss_one (vs_dput 1 hu1 (VP.ve (vp_bor (VP.vr (vp_dg2 hu1 (vr_var 1) (VP.vr (vp_ix (vr_var 3) (VP.vr vp_int))) (VP.ve vp_int) ⟨rfl,rfl,rfl,rfl⟩)) (VP.vr (vp_dg2 hu1 (vr_var 1) (VP.vr (vp_ix (vr_var 3) (VP.vr vp_int))) (VP.ve vp_int) ⟨rfl,rfl,rfl,rfl⟩)))) (VP.vr (vp_ix (vr_var 3) (VP.vr vp_int)))))
         vss_nil)))))
   (vss_one (vs_ret (vx_give 1 np)))))),fun _=>?_⟩
 obtain ⟨rs,ys,a,rfl,hn,Y,h4,hok,hq⟩:=hG
 have lenE:∀ {E:List Ent},IE rs ys a E→(vsE E).length < 16777216:=fun I=>by have:=I.len; unfold vsE; rw [List.length_map]; omega
 have kE:∀ {E:List Ent},IE rs ys a E→∀ e∈E,e.1.1=(a:Int):=fun I e he=>(I.ks e he).1
 refine loop_enum (fun i ρ=>∃ E b2 b3,ρ=[some (.lst (rs.map rowT),false),some (dkS E,true),b2,b3,none]∧E=lw0 a rs i) ⟨[],none,none,rfl,rfl⟩ ?_ ?_
 · rintro i r ρ hr ⟨E,b2,b3,rfl,eE⟩
   have hi:=(List.getElem?_eq_some_iff.mp hr).1
   have es:lw0 a rs (i+1)=nwS a E i r:=by simp only [lw0,hr,eE]
   have I:IE rs ys a E:=by rw [eE]; exact ie_0 Y i
   have sh:(0:Int)≤(i:Int)∧(i:Int)≤1000000∧(1:Int).natAbs < 2 ^ 64:=⟨by omega,by omega,by decide⟩
   cases r with
   | new x =>
     refine ⟨rfl,rfl,_,atI_nat (j:=0) rfl,_,atI_nat (j:=1) rfl,sh,?_⟩
     show pBor ((dGet (ksS E) (vsE E) (.inr x)).getD (.int 0)) (.int (1 * 2 ^ ((i:Int)).toNat)) _
     rw [dGet_S x (kE I)]
     refine ⟨_,atI_nat (j:=1) rfl,lenE I,?_⟩
     refine ⟨nwS a E i (.new x),some (.int (i:Int),false),some (rowT (.new x),false),?_,es.symm⟩
     show [some (T.lst (rs.map rowT),false),some (T.dk (dKeys (ksS E) (.inr x)) (dVals (ksS E) (vsE E) (.inr x) (.int (bitOr (getE E ((a:Int),x)) (1 * 2 ^ ((i:Int)).toNat)))),true),some (.int (i:Int),false),some (rowT (.new x),false),none]=_
     rw [keys_S (kE I) x (bitOr (getE E ((a:Int),x)) (1 * 2 ^ ((i:Int)).toNat)),vals_S (kE I)]; rfl
   | get x y k=>exact absurd (hok _ (List.mem_of_getElem? hr)) Bool.false_ne_true
   | set y k o=>exact absurd (hok _ (List.mem_of_getElem? hr)) Bool.false_ne_true
   | call x g as=>exact absurd (hok _ (List.mem_of_getElem? hr)) Bool.false_ne_true
   | _=>exact ⟨rfl,rfl,_,atI_nat (j:=0) rfl,E,_,_,rfl,es.symm⟩
 · rintro ρ ⟨E,b2,b3,rfl,eE⟩
   refine ⟨by decide,by decide,?_⟩
   refine loop_range (fun t ρ=>∃ E b2 b3 b4,ρ=[some (.lst (rs.map rowT),false),some (dkS E,true),b2,b3,b4]∧E=lwT a rs t) ⟨E,b2,b3,none,rfl,eE⟩ ?_ ?_
   · rintro t ρ ht ⟨E0,b2,b3,b4,rfl,eE0⟩
     rw [Int.zero_add]
     refine loop_map (fun i ρ=>∃ E b3,ρ=[some (.lst (rs.map rowT),false),some (dkS E,true),b2,b3,some (.int (t:Int),false)]∧E=lwP a rs E0 i) ⟨E0,b3,rfl,rfl⟩ ?_ ?_
     · rintro i r ρ hr ⟨E,b3,rfl,eE⟩
       have es:lwP a rs E0 (i+1)=ptS a E r:=by simp only [lwP,hr,eE]
       have I:IE rs ys a E:=by rw [eE,eE0]; exact (ie_t Y t).p Y i
       cases r with
       | put x o =>
         cases o with
         | nm y =>
           refine ⟨_,atI_nat (j:=0) rfl,_,atI_nat (j:=2) rfl,rfl,.str x,atI_nat (j:=1) rfl,.str y,atI_nat (j:=2) rfl,?_⟩
           dsimp only [fT,fC,keyT,Rt.t]
           show pBor ((dGet (ksS E) (vsE E) (.inr x)).getD (.int 0)) ((dGet (ksS E) (vsE E) (.inr y)).getD (.int 0)) (fun r=>_)
           rw [dGet_S x (kE I),dGet_S y (kE I)]
           refine ⟨_,atI_nat (j:=1) rfl,lenE I,?_⟩
           refine ⟨ptS a E (.put x (.nm y)),some (rowT (.put x (.nm y)),false),?_,es.symm⟩
           show [some (T.lst (rs.map rowT),false),some (T.dk (dKeys (ksS E) (.inr x)) (dVals (ksS E) (vsE E) (.inr x) (.int (bitOr (getE E ((a:Int),x)) (getE E ((a:Int),y))))),true),b2,some (rowT (.put x (.nm y)),false),some (.int (t:Int),false)]=_
           rw [keys_S (kE I) x (bitOr (getE E ((a:Int),x)) (getE E ((a:Int),y))),vals_S (kE I)]; rfl
         | nu n=>exact ⟨_,atI_nat (j:=0) rfl,_,atI_nat (j:=2) rfl,rfl,E,_,rfl,es.symm⟩
       | get x y k=>exact absurd (hok _ (List.mem_of_getElem? hr)) Bool.false_ne_true
       | set y k o=>exact absurd (hok _ (List.mem_of_getElem? hr)) Bool.false_ne_true
       | call x g as=>exact absurd (hok _ (List.mem_of_getElem? hr)) Bool.false_ne_true
       | _=>exact ⟨_,atI_nat (j:=0) rfl,E,_,rfl,es.symm⟩
     · rintro ρ ⟨E,b3,rfl,eE⟩
       exact ⟨E,_,_,_,rfl,by rw [eE,eE0]; rfl⟩
   · rintro ρ ⟨E,b2,b3,b4,rfl,eE⟩
     have e4:E=lwT a rs 4:=eE
     rw [e4]
     exact hq
end
end K21L
namespace K21L
open PySem L2 VT Gen K5 Lay BS K20 K21V
open PySem.Builtin (bitOr)
structure MgS (mg:Str→Option Value):Prop where
 isinstance:mg "isinstance" = none
 str:mg "str" = none
 int:mg "int" = none
 bool:mg "bool" = none
 list:mg "list" = none
 tuple:mg "tuple" = none
 len:mg "len" = none
 zip:mg "zip" = none
noncomputable def Lv:Nat→T→Prop
 | 0,_=>False
 | n+1,t=>(∃ i,t = .int i)∨(∃ x,t = .str x)∨(∃ ts,t = .lst ts∧∀ u∈ts,Lv n u)∨∃ ts,t = .tup ts∧∀ u∈ts,Lv n u
noncomputable def gSame (n:Nat) (ts:List T) (q:Rt→Prop):Prop:=∃ t,ts=[t,t]∧Lv n t∧q (.vw (.bl true))
theorem zip_self (ts:List T):zipT ts ts=ts.map fun u=>.tup [u,u]:=by
 unfold zipT
 rw [List.zipWith_self]
section
variable {P:Program} {w:World} {K:PySem.W.Frag} {mg:Str→Option Value} {base:Heap}
noncomputable abbrev n_same:List Str:=["_law_found","_law_due_here","_law_one","_law_other"]
theorem sc_same:FnScope n_same ["_law_found","_law_due_here"] (defScope s_same):=⟨rfl,rfl,rfl,by decide +kernel,rfl,by decide +kernel,by decide +kernel⟩
theorem ok_same0 {f:Addr} {fd:FuncData} (D:Df K mg "_law_same" s_same ["_law_found","_law_due_here"] f fd):Cal P w K mg base "_law_same" ["_law_found","_law_due_here"] 1 (spP K 2 (gSame 0)) :=
 D.cal (fnP D.F sc_same rfl fun cdv A outer s H E Ox hr ts q hG=>by obtain ⟨_,_,h,_⟩:=hG; exact h.elim)
theorem ok_sameS {n d:Nat} {f:Addr} {fd:FuncData} (D:Df K mg "_law_same" s_same ["_law_found","_law_due_here"] f fd) (M:MgS mg) (C:Cal P w K mg base "_law_same" ["_law_found","_law_due_here"] d (spP K 2 (gSame n))):Cal P w K mg base "_law_same" ["_law_found","_law_due_here"] (d+1) (spP K 2 (gSame (n+1))):=by
 obtain ⟨f_same,fd_same,m_same,k_same,b_same,F_same⟩:=C
 refine D.cal (fnP D.F sc_same rfl fun cdv A outer s H E Ox hr ts q hG=>?_)
 have nd:=sc_same.nd
 have hu:=Room.u101 hr
 have np:∀ {i:Nat},NotPar ⟨H,[],Ox⟩ i:=np0
 have npf:∀ {is:List Nat},∀ i∈is,NotPar ⟨H,[],Ox⟩ i:=fun i _=>np0
 refine ⟨_,(vss_cons (vs_if (vc_is (vr_var 1) (VP.vr vp_non))
    (vss_one (vs_ret (VP.vx (vp_is (vr_var 0) (VP.vr vp_non)))))
    vss_nil)
   (vss_cons (vs_if (vc_val (vp_inst inst_str (by rfl) M.isinstance (by rfl) M.str b_str (vr_var 1)))
     (vss_one (vs_ret (VP.vx (vp_and (vp_inst inst_str (by rfl) M.isinstance (by rfl) M.str b_str (vr_var 0)) (vp_one (vp_eq hu (vr_var 0) (vr_var 1)))))))
     vss_nil)
   (vss_cons (vs_if (vc_val (vp_inst inst_int (by rfl) M.isinstance (by rfl) M.int b_int (vr_var 1)))
     (vss_one (vs_ret (VP.vx (vp_and (vp_inst inst_int (by rfl) M.isinstance (by rfl) M.int b_int (vr_var 0)) (vp_and (vp_not (vp_inst inst_bool (by rfl) M.isinstance (by rfl) M.bool b_bool (vr_var 0))) (vp_one (vp_eq hu (vr_var 0) (vr_var 1))))))))
     vss_nil)
   (vss_cons (vs_if (VW.vc (vw_and (vc_val (vp_inst inst_list (by rfl) M.isinstance (by rfl) M.list b_list (vr_var 1))) (vw_and1 (vc_not (vc_val (vp_inst inst_list (by rfl) M.isinstance (by rfl) M.list b_list (vr_var 0)))))))
     (vss_one (vs_ret (VP.vx vp_bl)))
     vss_nil)
   (vss_cons (vs_if (VW.vc (vw_and (vc_val (vp_inst inst_tuple (by rfl) M.isinstance (by rfl) M.tuple b_tuple (vr_var 1))) (vw_and1 (vc_not (vc_val (vp_inst inst_tuple (by rfl) M.isinstance (by rfl) M.tuple b_tuple (vr_var 0)))))))
     (vss_one (vs_ret (VP.vx vp_bl)))
     vss_nil)
   (vss_cons (vs_if (vc_ne hu (VP.vr (vp_callB call_lenU callT_len (by rfl) M.len PySem.boot_len (var_cons (vr_var 0) var_nil))) (VP.vr (vp_callB call_lenU callT_len (by rfl) M.len PySem.boot_len (var_cons (vr_var 1) var_nil))))
     (vss_one (vs_ret (VP.vx vp_bl)))
     vss_nil)
   (vss_cons (vs_for PassesOwn.never rfl (vi_zip (by rfl) M.zip (ve_var 0) (ve_var 1)) (vg_tup (n:=2) rfl (vgs_cons (vg_name (i:=2) nd rfl (Or.inl rfl) np) (vgs_cons (vg_name (i:=3) nd rfl (Or.inl rfl) np) vgs_nil)))
     (vss_one (vs_if (vc_not (vc_val (vp_call F_same (hr.mono (by omega)) (by rfl) m_same k_same b_same (va_cons (ve_var 2) (va_cons (ve_var 3) va_nil)))))
       (vss_one (vs_ret (VP.vx vp_bl)))
       vss_nil)))
   (vss_one (vs_ret (VP.vx vp_bl)))))))))),fun _=>?_⟩
 obtain ⟨t,rfl,hL,hq⟩:=hG
 rcases hL with ⟨i,rfl⟩ | ⟨x,rfl⟩ | ⟨l,rfl,hl⟩ | ⟨l,rfl,hl⟩
 · refine ⟨rfl,rfl,rfl,rfl,?_⟩
   show q (.vw (.bl (decide (i=i))))
   rw [decide_eq_true rfl]
   exact hq
 · refine ⟨rfl,rfl,?_⟩
   show q (.vw (.bl (decide (x=x))))
   rw [decide_eq_true rfl]
   exact hq
 · refine ⟨rfl,rfl,rfl,rfl,rfl,?_⟩
   refine iteN (c:=!decide ((l.length:Int)=(l.length:Int))) (by simp) ?_
   show LoopW (zipT l l) _ _ _ _
   rw [zip_self]
   refine loop_map (fun _ ρ=>∃ b2 b3,ρ=[some (.lst l,false),some (.lst l,false),b2,b3]) ⟨_,_,rfl⟩ ?_ ?_
   · rintro i x ρ hx ⟨b2,b3,rfl⟩
     exact ⟨rfl,rfl,rfl,x,rfl,hl x (List.mem_of_getElem? hx),_,_,rfl⟩
   · rintro ρ ⟨b2,b3,rfl⟩
     exact hq
 · refine ⟨rfl,rfl,rfl,rfl,rfl,?_⟩
   refine iteN (c:=!decide ((l.length:Int)=(l.length:Int))) (by simp) ?_
   show LoopW (zipT l l) _ _ _ _
   rw [zip_self]
   refine loop_map (fun _ ρ=>∃ b2 b3,ρ=[some (.tup l,false),some (.tup l,false),b2,b3]) ⟨_,_,rfl⟩ ?_ ?_
   · rintro i x ρ hx ⟨b2,b3,rfl⟩
     exact ⟨rfl,rfl,rfl,x,rfl,hl x (List.mem_of_getElem? hx),_,_,rfl⟩
   · rintro ρ ⟨b2,b3,rfl⟩
     exact hq
theorem ok_same {f:Addr} {fd:FuncData} (D:Df K mg "_law_same" s_same ["_law_found","_law_due_here"] f fd) (M:MgS mg):Cal P w K mg base "_law_same" ["_law_found","_law_due_here"] 5 (spP K 2 (gSame 4)):=ok_sameS D M (ok_sameS D M (ok_sameS D M (ok_sameS D M (ok_same0 D))))
end
end K21L
namespace VT
open PySem PySem.Spec PyProof.Rows L2
noncomputable def FzK (H:Hp) (a:Addr) (o:Obj) (ks:List Key):Prop:=∃ vs:List V,ks.length=vs.length∧H a=some (.frz o (.dK (ks.zip vs)))
theorem FzK.known {P:Program} {w:World} {H:Hp} {h:Heap} {a:Addr} {o:Obj} {ks:List Key} (ok:HOk P w H h) (z:FzK H a o ks):h.get? a=some o∧(a == sysModules)=false∧o.cls = .type "dict"∧∃ es ep,o.data = .dict es ep∧es.size=ks.length ∧
  ∀ (i:Nat) (k:Key),ks[i]?=some k→∃ e,es[i]?=some e∧RelV (kV k) e.key:=by
 obtain ⟨vs,hl,ha⟩:=z
 obtain ⟨ho,_,hm,us,hx,o',es,ep,h1,h2,h3,h4,h5,h6⟩:=(show ObjOk P w H h a (.frz o (.dK (ks.zip vs))) from ok a _ ha)
 rw [ho] at h1
 cases h1
 have e1:=Paired.length hx
 rw [List.length_zip,hl,Nat.min_self] at e1
 have hz:es.size=ks.length:=by
  rw [← Array.length_toList,h5.length,hl]
  exact e1.symm
 refine ⟨ho,hm,h2.1,es,ep,h3,hz,fun i k hk=>?_⟩
 have hi:i < ks.length:=(List.getElem?_eq_some_iff.mp hk).1
 have hv:vs[i]?=some (vs[i]'(by omega)):=List.getElem?_eq_getElem _
 have hp:(ks.zip vs)[i]?=some (k,vs[i]'(by omega)):=by rw [List.getElem?_zip_eq_some]; exact ⟨hk,hv⟩
 obtain ⟨q,hq,e2,_⟩:=paired_getL hx hp
 have he:es[i]?=some (es[i]'(by omega)):=Array.getElem?_eq_getElem _
 have he':es.toList[i]?=some (es[i]'(by omega)):=by rw [Array.getElem?_toList]; exact he
 obtain ⟨y1,_⟩:=h5.get? (k:=q.1) (v:=q.2) he' hq
 refine ⟨_,he,?_⟩
 have y2:keyIs k (es[i]'(by omega)).key=true:=by
  have:k=q.1:=e2
  rw [this]; exact y1
 rcases keyIs_shape y2 with ⟨j,t,rfl,e⟩ | ⟨x,t,rfl,e⟩
 · rw [e]; exact ⟨t,rfl⟩
 · rw [e]; exact ⟨t,rfl⟩
noncomputable def Itk (a:Addr) (o:Obj) (ks:List Key):It :=
 ⟨fun i H=>FzK H a o ks∧i < ks.length,fun i H x H'=>H'=H∧∃ k,ks[i]?=some k∧x=kV k,fun i H=>FzK H a o ks∧ks.length=i⟩
theorem turn_dictK {P:Program} {w:World} {K:PySem.W.Frag} {tg:Expr} {o:Obj} {es:Array DictEntry} {ep:Nat} (ks:List Key) (a it:Addr) (hd:o.data = .dict es ep):Turn P w K tg (Itk a o ks) [it] it (fun i h=>h.IsKeyIter it a i es.size ep) where
 mem:=by simp
 obj:=fun i h st b hb=>by
  have e:b=it:=by simpa using hb
  subst e
  obtain ⟨o,e,c,d⟩:=st
  exact ⟨o,e,fun v z=>by rw [d] at z; cases z⟩
 keep:=fun i h h' st k=>st.at fun o e=>k it (by simp) o e
 item:=by
  intro X hP hw hK hc i pins s σ H E I hf st hg
  subst hP hw hK
  obtain ⟨ha,hi⟩:=hg
  obtain ⟨ho,_,_,es',ep',h3,hz,hk⟩:=ha.known I.hok
  rw [hd] at h3
  cases h3
  obtain ⟨e,he,ek⟩:=hk i _ (List.getElem?_eq_getElem hi)
  obtain ⟨f0,f1,f2,f3,f4,f5⟩:=hf it (by simp)
  refine wpAny_pyNext_dictO st ho hd he fun h' st' sb=>?_
  have I1:Inv X pins σ H { s with heap:=h' }:=I.turned (t':=s.toks) (fun b o hb e=>(sb.2 b hb).trans e) f0 f1 f3 f4 f5
  obtain ⟨oi,e1,c,d⟩:=id st'
  exact ⟨_,rfl,go_of (s:={ s with heap:=h' }) e1 c d (by decide) ⟨kV ks[i],H,I1,ek,⟨rfl,_,List.getElem?_eq_getElem hi,rfl⟩,st',fun b hb=>(hf b hb).1⟩⟩
 done:=by
  intro X hP hw hK hc i pins s σ H E I hf st hg
  subst hP hw hK
  obtain ⟨ha,hi⟩:=hg
  obtain ⟨ho,_,_,es',ep',h3,hz,hk⟩:=ha.known I.hok
  rw [hd] at h3
  cases h3
  obtain ⟨f0,f1,f2,f3,f4,f5⟩:=hf it (by simp)
  exact wpAny_pyNext_dictOEnd (I.ok.hd hc) st ho hd (Array.getElem?_eq_none (by omega)) fun h' eb=>⟨rfl,I.turned (t':=s.toks) (fun b o hb e=>eb b o hb e) f0 f1 f3 f4 f5⟩
 self:=fun _ _ _ _ _ st h=>wpAny_pyIter_keyO st h
noncomputable def iDictK (tl:TE):TI:=fun σ H R=>tl σ H fun x H1=>∃ a o ks,x = .ref a∧FzK H1 a o ks∧R (Itk a o ks) H1
theorem pi_dictK {X:Cx} {tg l:Expr} {tl:TE} (hl:PE X l tl):PI X tg l (iDictK tl):=by
 intro pins s σ H R I h
 refine thn (hl pins s σ H _ I h) fun v s1 ⟨x,H1,I1,r1,a,o,ks,e,ha,q⟩=>?_
 subst e
 cases r1
 obtain ⟨ho,hm,hc,es,ep,h3,hz,hk⟩:=ha.known I1.hok
 refine wpAny_pyIter_dictO hm ho hc h3 ?_
 refine ⟨s1.heap.objs.size,[s1.heap.objs.size],_,_,H1,rfl,I1.kept (t':=s1.toks) fun b o e=>Heap.get?_push_of_some _ e,turn_dictK ks a _ h3,⟨_,Heap.get?_push_size _ rfl,rfl,rfl⟩,fun b hb=>?_,q⟩
 have e:b=s1.heap.objs.size:=by simpa using hb
 subst e
 exact I1.fpOk (Nat.le_refl _) (I1.hok.fresh (Nat.le_refl _))
theorem dz_fz {K:PySem.W.Frag} {H:Hp} {A:List Addr} {o:Obj} {ks:List Key} {ts:List T} {a:Addr} (h:At K H A (.dz o ks ts) (.ref a)):FzK H a o ks:=by
 simp only [At] at h
 obtain ⟨b,vs,e,hl,hd,_⟩:=h
 cases e
 exact ⟨vs,hl,hd.1⟩
theorem wk_dictK {K:PySem.W.Frag} {a:Addr} {o:Obj} {ks:List Key} {ts:List T}:Wk K (Itk a o ks) [(.dz o ks ts,.ref a)] (ks.map kT):=fun H A hA h i=>by
 have z:=dz_fz (h _ List.mem_cons_self)
 refine ⟨fun hi=>⟨z,by simpa using hi⟩,fun hi=>⟨z,by simpa using hi⟩,fun t ht x H' y=>?_⟩
 obtain ⟨rfl,k,hk,rfl⟩:=y
 rw [List.getElem?_map,hk] at ht
 cases ht
 exact ⟨Same.refl _,at_kT k⟩
section
variable {X:Cx} {Z:Zc} {tg l e a b:Expr} {fa fb fc:FE} {pos:Pos}
noncomputable def fKeysK (f:FE):FI:=fun ρ Q=>f ρ fun t=>match t with
 | .dz _ ks _=>Q (ks.map kT)
 | _=>False
theorem vi_dictK {f:FE} (h:VE X Z l f):VI X Z tg l (fKeysK f):=.mk fun tm=>PI.weak (pi_dictK (h tm)) fun σ H R ⟨ρ,O,q,I,hf,k⟩=>⟨ρ,O,_,I,hf,fun t ht v H' s a=>by
 cases t with
 | dz o ks ts =>
   obtain ⟨b,rfl⟩:∃ b,v = .ref b:=by simp only [At] at a; obtain ⟨b,_,e,_⟩:=a; exact ⟨b,e⟩
   exact ⟨b,o,ks,rfl,dz_fz a,k _ ht _ H' _ s (fun p hp=>by rw [List.mem_singleton.mp hp]; exact a) wk_dictK⟩
 | _=>exact ht.elim⟩
theorem pss_iceK {rest:List Stmt} {t:TS} (h:PSs X rest t):PSs X rest (fun D σ H=>∃ a kvs,H a=some (.dK kvs)∧∀ o,t D σ (upd H a (.frz o (.dK kvs)))):=by
 intro pins s σ H D I hq
 obtain ⟨a,kvs,ha,k⟩:=hq
 obtain ⟨z,y,xs,r,o,es,ep,h1,h2⟩:=(show ObjOk X.prog X.w H s.heap a (.dK kvs) from I.hok a _ ha)
 have new:ObjOk X.prog X.w (upd H a (.frz o (.dK kvs))) s.heap a (.frz o (.dK kvs)):=⟨h1,z,y,xs,r,o,es,ep,h1,h2⟩
 have I':Inv X pins σ (upd H a (.frz o (.dK kvs))) { s with heap:=s.heap,toks:=s.toks }:=I.write (x:=a) (e:=a) (by rw [ha]; trivial) (.inl rfl) (fun b u _ q=>q) ⟨o,h1⟩ new
 exact h pins s σ _ D I' (k o)
theorem EnvAt.iceK {K:PySem.W.Frag} {tm:List (T×V)} {O:List (Option Addr)} {ρ:En} {σ:St} {H:Hp} (I:EnvAt K Z tm O ρ σ H) {i:Nat} {ks:List Key} {ts:List T} (hp:NotPar Z i) (hi:ρ[i]?=some (some (.dk ks ts,true))) :
  ∃ a vs,H a=some (.dK (ks.zip vs))∧∀ o,EnvAt K Z tm (O.set i none) (ρ.set i (some (.dz o ks ts,false))) σ (upd H a (.frz o (.dK (ks.zip vs)))):=by
 obtain ⟨o',s,h1,h2,a,rfl,rfl,vs,hl,e0,q0⟩:=I.sl i _ hi
 have ha:a∈roots O:=mem_roots.mpr (List.mem_of_getElem? h1)
 have hav:a∈av Z O:=List.mem_append_left _ ha
 obtain ⟨hP,hx,_⟩:=I.own a ha
 refine ⟨a,vs,e0,fun o=>?_⟩
 have apart:∀ b,b∈roots (O.set i none)→b≠a:=fun b hb e=>by
  subst e
  obtain ⟨j,hj⟩:=List.mem_iff_getElem?.mp (mem_roots.mp hb)
  rcases get_set hj with ⟨_,z,_⟩ | ⟨ne,z⟩
  · cases z
  · exact ne (inj_O I z h1)
 have nav:a∉av Z (O.set i none):=fun z=>by
  rcases List.mem_append.mp z with z | z
  · exact apart a z rfl
  · exact hx z
 have fw:∀ {t:T} {v:V},At K H (av Z O) t v→At K (upd H a (.frz o (.dK (ks.zip vs)))) (av Z (O.set i none)) t v:=fun q=>(At.wrote hav e0 rfl q).fewer (av_none_sub i)
 have fwL:∀ {t:List T} {v:List V},AtL K H (av Z O) t v→AtL K (upd H a (.frz o (.dK (ks.zip vs)))) (av Z (O.set i none)) t v:=fun q=>(AtL.wrote hav e0 rfl q).fewer (av_none_sub i)
 refine ⟨by simp [I.lσ],by simp [I.lO],fun j e h=>?_,nd_set_none _ _ I.nd,fun b h=>?_,fun p q=>?_,fun b h=>?_,fun b u e n=>?_,fun p q=>fw (I.tmp p q)⟩
 · rcases get_set h with ⟨rfl,rfl,hl'⟩ | ⟨ne,h⟩
   · refine ⟨none,some (.ref a),by rw [List.getElem?_set_self (by rw [I.lO]; exact hl')],h2,rfl,.ref a,rfl,?_⟩
     simp only [At]
     exact ⟨a,vs,rfl,hl,⟨upd_same,nav⟩,fwL q0⟩
   · obtain ⟨o2,s,g1,g2,g3⟩:=I.sl j e h
     refine ⟨o2,s,by rw [List.getElem?_set_ne (Ne.symm ne)]; exact g1,g2,g3.map (fun _ _ q=>fw q) fun b t eb q=>?_⟩
     subst eb
     refine q.map (upd_ne ?_) fun _ _ q=>fwL q
     intro e; subst e
     exact ne (inj_O I g1 h1)
 · obtain ⟨g1,g2,u,g3,g4⟩:=I.own b (roots_set_sub i b h)
   exact ⟨g1,g2,u,by rw [upd_ne (apart b h)]; exact g3,g4⟩
 · rw [List.getElem?_set_ne (Ne.symm (hp p q))]; exact I.par p q
 · by_cases e:b=a
   · subst e; exact absurd h hx
   · rw [upd_ne e]; exact I.ox b h
 · rw [upd_ne]
   · exact I.keep b u e n
   · intro eb; subst eb
     rcases hP with z | z
     · exact n z
     · rw [z] at e; cases e
noncomputable def gIceK (i:Nat) (g:FS):FS:=fun d ρ=>match ρ[i]? with
 | some (some (.dk ks ts,true))=>∀ o,g d (ρ.set i (some (.dz o ks ts,false)))
 | _=>False
theorem vss_iceK {rest:List Stmt} {g:FS} (i:Nat) (hp:NotPar Z i) (h:VSs X Z rest g):VSs X Z rest (gIceK i g):=.mk fun tm=>PSs.weak' (pss_iceK (h tm)) fun D σ H ⟨ρ,O,d,I,q,F⟩=>by
 unfold gIceK at q
 split at q
 · rename_i ks ts e
   obtain ⟨a,vs,e1,k⟩:=I.iceK hp e
   exact ⟨a,_,e1,fun o=>⟨_,_,d,k o,q o,F⟩⟩
 · exact q.elim
noncomputable def fDixZ (fa fb:FE):FP:=fun ρ Q=>fa ρ fun x=>fb ρ fun y=>match x,keyT y with
 | .dz _ ks ts,some k=>∃ t,dGet ks ts k=some t∧Q (.vw t)
 | _,_=>False
theorem vp_dixZ (hu:X.A.units+1 < cLine) (ha:VR X Z a fa) (hb:VR X Z b fb) (hs:NoSl b:=by intro _ _; rfl):VP X Z (.Subscript a b pos) (fDixZ fa fb):=.mk fun tm=>PE.weak (pe_dget hu (ha tm) (hb tm) hs) fun σ H Q ⟨ρ,O,q,I,hf,k⟩ =>
 ⟨ρ,O,_,I,hf,fun x hx v H1 s1 a1=>⟨ρ,O,_,I.same s1,hx,fun y hy w H2 s2 a2=>by
   split at hy
   · rename_i o ks ts kk e
     obtain ⟨t,e1,hq⟩:=hy
     obtain ⟨l,vs,rfl,hl,hd,hv⟩:=(a1.same s2).dz
     obtain ⟨u,e2,e3⟩:=(dGet_at hv).1 t e1
     rw [keyT_at a2 e]
     exact ⟨l,u,rfl,.inl ⟨_,kk,.inr ⟨o,hd⟩,rfl,by rw [dGet_val,e2]⟩,k _ hq _ H2 (s1.trans s2) ⟨(I.same s1).same s2,e3⟩⟩
   · exact hy.elim⟩⟩
noncomputable def fDGZ (fa fb fc:FE):FP:=fun ρ Q=>fa ρ fun x=>match x with
 | .dz _ ks ts=>fb ρ fun y=>fc ρ fun z=>match keyT y with
   | some k=>Q (.vw ((dGet ks ts k).getD z))
   | none=>False
 | _=>False
theorem vp_dgZ {c:Expr} {apos cpos:Pos} (hu:X.A.units+1 < cLine) (ha:VR X Z a fa) (hb:VR X Z b fb) (hc:VE X Z c fc) (m:M2 X a "get" apos b c cpos):VP X Z (.Call (.Attribute a "get" apos) [b,c] [] cpos) (fDGZ fa fb fc):=.mk fun tm=>PE.weak (pe_dget2 hu (ha tm) (hb tm) (hc tm) m) fun σ H Q ⟨ρ,O,q,I,hf,k⟩ =>
 ⟨ρ,O,_,I,hf,fun x hx v H1 s1 a1=>by
   split at hx
   · rename_i o ks ts
     obtain ⟨l,vs,rfl,hl,hd,hv⟩:=a1.dz
     refine ⟨l,rfl,.inl ⟨_,.inr ⟨o,hd⟩⟩,ρ,O,_,I.same s1,hx,fun y hy w H2 s2 a2=>⟨ρ,O,_,(I.same s1).same s2,hy,fun z hz u H3 s3 a3=>?_⟩⟩
     split at hz
     · rename_i kk e
       rw [keyT_at a2 e]
       refine ⟨_,.inl ⟨_,kk,.inr ⟨o,s3 _ _ (s2 _ _ hd)⟩,rfl,rfl⟩,?_⟩
       rw [dGet_val]
       exact k _ hz _ H3 ((s1.trans s2).trans s3) ⟨((I.same s1).same s2).same s3,dget_or ((hv.same s2).same s3) a3⟩
     · exact hz.elim
   · exact hx.elim⟩
end
end VT
namespace VT
open PySem PySem.Spec PyProof.Rows L2
theorem pss_no {X:Cx} {rest:List Stmt}:PSs X rest (fun _ _ _=>False):=fun _ _ _ _ _ _ h=>h.elim
noncomputable def gSpoil2 (i j k:Nat) (f:En→(List T→Prop)→Prop) (fc1 fc2:FB) (fe1 fe2:FE) (g:FS):FS:=fun d ρ=>f ρ fun us=>(i < ρ.length∧j < ρ.length∧k≠i∧i≠j)∧∃ t1 t2 ws,us=[.lst t1,.lst t2]∧t1.length < 1000000∧t2.length < 1000000∧ρ[k]?=some (some (.lst ws,false)) ∧
 fc1 (ρ.set i (some (.tup us,false))) (fun b=>b=false)∧(∀ t∈ws,fc2 ((ρ.set i (some (.tup us,false))).set j (some (t,false))) fun b=>b=false) ∧
 fe1 ((ρ.set i none).set j none) (fun _=>True)∧fe2 ((ρ.set i none).set j none) (fun _=>True)∧g d ((ρ.set i none).set j none)
section
variable {X:Cx} {Z:Zc}
theorem vss_spoil2 {i j k:Nat} {x y z:Str} {e c1 c2 e1 e2:Expr} {rb1 rb2 rest:List Stmt} {f:En→(List T→Prop)→Prop} {fc1 fc2:FB} {fe1 fe2:FE} {g:FS} {px py pz p1 p2 p3 p4 q1 q2 q3 q4 q5 q6 r1 r2 r3 r4 r5 r6:Pos} {k1 k2}
  (hN:X.N.Nodup) (hi:X.N[i]?=some x) (hx:Loc X.env.scope x) (hj:X.N[j]?=some y) (hy:Loc X.env.scope y) (hk:X.N[k]?=some z) (vx:Vis X.env.scope x) (vz:Vis X.env.scope z)
  (hp:PassesOwn (model X.prog X.w) X.A X.env X.xe) (hcalm:X.calm=true) (npi:NotPar Z i) (npj:NotPar Z j) (he:VD X Z e f) (hc1:VC X Z c1 fc1) (hc2:VC X Z c2 fc2) (he1:VE X Z e1 fe1) (he2:VE X Z e2 fe2) (hrest:VSs X Z rest g)
  (hd:(x == ("__debug__" : Str))=false:=by decide) (hcd:(x == ("__classdict__" : Str))=false:=by decide) (hdz:(z == ("__debug__" : Str))=false:=by decide) (hcdz:(z == ("__classdict__" : Str))=false:=by decide)
  (hs:swapsWith e (some (.Name x px)) p1.line X.env=pure false:=by rfl) (hf:X.fn x=true∨X.env.scope.names.lookup x=some .local:=by first | exact .inl rfl | exact .inr rfl | assumption)
  (hfy:X.fn y=true∨X.env.scope.names.lookup y=some .local:=by first | exact .inl rfl | exact .inr rfl | assumption) (hsf:∀ v,foldedSetIterable (.Name z pz) X.env v=pure v:=by intro _; rfl)
  (a1:attributeBase (.Subscript (.Name x q1) (.Constant (.int 0) k1 q2) q3) "append" X.env (eval (.Subscript (.Name x q1) (.Constant (.int 0) k1 q2) q3) X.env)=eval (.Subscript (.Name x q1) (.Constant (.int 0) k1 q2) q3) X.env:=by rfl)
  (b1:((backTo q5 (starEach [e1] X.env)).all (fun x=>!x.1) && (backToKw q5 (keywordEach [] X.env)).all (fun x=>x.1.isSome) && decide (([e1]:List Expr).length+([]:List Keyword).length+(if ([]:List Keyword).isEmpty then 0 else 1) < 30))=true:=by rfl)
  (l1:(q4.endLine == q5.line)=true:=by rfl) (s1:starEach [e1] X.env=(false,eval e1 X.env) :: starEach [] X.env:=by rfl) (pl1:(backTo q5 (starEach [] X.env)).any (·.1)=false:=by rfl)
  (sw1:swapsWith (.Call (.Attribute (.Subscript (.Name x q1) (.Constant (.int 0) k1 q2) q3) "append" q4) [e1] [] q5) none q6.line X.env=pure false:=by rfl)
  (a2:attributeBase (.Subscript (.Name x r1) (.Constant (.int 1) k2 r2) r3) "append" X.env (eval (.Subscript (.Name x r1) (.Constant (.int 1) k2 r2) r3) X.env)=eval (.Subscript (.Name x r1) (.Constant (.int 1) k2 r2) r3) X.env:=by rfl)
  (b2:((backTo r5 (starEach [e2] X.env)).all (fun x=>!x.1) && (backToKw r5 (keywordEach [] X.env)).all (fun x=>x.1.isSome) && decide (([e2]:List Expr).length+([]:List Keyword).length+(if ([]:List Keyword).isEmpty then 0 else 1) < 30))=true:=by rfl)
  (l2:(r4.endLine == r5.line)=true:=by rfl) (s2:starEach [e2] X.env=(false,eval e2 X.env) :: starEach [] X.env:=by rfl) (pl2:(backTo r5 (starEach [] X.env)).any (·.1)=false:=by rfl)
  (sw2:swapsWith (.Call (.Attribute (.Subscript (.Name x r1) (.Constant (.int 1) k2 r2) r3) "append" r4) [e2] [] r5) none r6.line X.env=pure false:=by rfl)
  (ix1:PlainIx (.Constant (.int 0) k1 q2):=by exact fun _ _=>rfl) (ix2:PlainIx (.Constant (.int 1) k2 r2):=by exact fun _ _=>rfl) :
  VSs X Z (.Assign [.Name x px] e p1 :: .If c1 rb1 [] p2 :: .For (.Name y py) (.Name z pz) [.If c2 rb2 [] p4] [] p3 :: .Expr (.Call (.Attribute (.Subscript (.Name x q1) (.Constant (.int 0) k1 q2) q3) "append" q4) [e1] [] q5) q6 ::
   .Expr (.Call (.Attribute (.Subscript (.Name x r1) (.Constant (.int 1) k2 r2) r3) "append" r4) [e2] [] r5) r6 :: rest) (gSpoil2 i j k f fc1 fc2 fe1 fe2 g):=.mk fun tm =>
 PSs.weak' (pss_cons (ps_set hN hi hx (he tm) hs hf) (pss_cons (ps_if (hc1 tm) pss_no pss_nil) (pss_cons (ps_for hp hcalm (pi_seq (pe_var hk vz hdz hcdz)) (pg_name hN hj hy hfy) (pss_one (ps_if (hc2 tm) pss_no pss_nil)) hsf)
  (pss_cons (ps_expr (pe_bm PySem.F.plainAttrs_list PySem.F.slot_list_append PySem.F.type_list_append mt_append (pe_ix ix_tup (pe_var hi vx hd hcd) pe_int ix1) (pa_cons (he1 tm) pa_nil s1) a1 b1 l1 s1 pl1) sw1)
    (pss_cons (ps_expr (pe_bm PySem.F.plainAttrs_list PySem.F.slot_list_append PySem.F.type_list_append mt_append (pe_ix ix_tup (pe_var hi vx hd hcd) pe_int ix2) (pa_cons (he2 tm) pa_nil s2) a2 b2 l2 s2 pl2) sw2) (hrest tm)))))) fun D σ H ⟨ρ,O,d,I,q,F⟩=>by
  refine ⟨ρ,O,_,I,q,fun us hus p ls H1 DD=>?_⟩
  obtain ⟨⟨hil,hjl,hki,hij⟩,t1,t2,ws,rfl,n1,n2,hw,h1,h2,h3,h4,h5⟩:=hus
  have I1:EnvAt X.K Z tm (O.set i none) (ρ.set i (some (.tup [.lst t1,.lst t2],false))) (σ.set i (some (.ref p))) H1:=(I.same DD.same).put npi (DD.at I)
  obtain ⟨la,lb,rfl⟩:∃ la lb,ls=[la,lb]:=by
   have:=Paired.length DD.rts
   match ls,this with
   | [a,b],_=>exact ⟨a,b,rfl⟩
  obtain ⟨hla,hlb⟩:(∃ vs,H1 la=some (.lst vs)∧vs.length < 1000000)∧∃ vs,H1 lb=some (.lst vs)∧vs.length < 1000000:=by
   have r:=DD.rts
   cases r with
   | cons ra r =>
     cases r with
     | cons rb _ =>
       obtain ⟨vs,e1,e2⟩:=ra
       obtain ⟨us,f1,f2⟩:=rb
       exact ⟨⟨vs,e1,by rw [e2.length]; exact n1⟩,us,f1,by rw [f2.length]; exact n2⟩
  have nab:la≠lb:=by have:=DD.nd; simp at this; exact this
  have na:H la=none:=DD.new la (by simp)
  have nb:H lb=none:=DD.new lb (by simp)
  obtain ⟨va,ea,za⟩:=hla
  obtain ⟨vb,eb,zb⟩:=hlb
  show lB X Z tm fc1 (σ.set i (some (.ref p))) H1 _
  refine ⟨_,_,_,I1,h1,fun b hb2 H2 sm2=>?_⟩
  subst hb2
  rw [if_neg Bool.false_ne_true]
  have hip:i < σ.length:=by rw [I.lσ]; exact hil
  obtain ⟨o1,o2,g1,g2,rfl,v,rfl,aw⟩:=I.sl k _ hw
  have g2':(σ.set i (some (.ref p)))[k]?=some (some v):=by rw [List.getElem?_set_ne (Ne.symm hki)]; exact g2
  have aw2:=aw
  simp only [At] at aw2
  obtain ⟨lw,vs,rfl,hls,hws⟩:=aw2
  have lsq:∀ {H':Hp},Same H H'→SqL X.K H' lw vs:=fun s=>(hls.same s).sq
  refine ⟨_,g2',.inl ⟨lw,rfl,⟨vs,lsq (DD.same.trans sm2)⟩,?_⟩⟩
  refine ⟨fun kk m σ' H'=>m+kk=vs.length∧(∃ sj,σ'=(σ.set i (some (.ref p))).set j sj)∧Same H1 H',⟨vs.length,rfl,⟨_,set_get_self _ j⟩,sm2⟩,?_⟩
  rintro kk m σ' H' ⟨hm,⟨sj,rfl⟩,sm⟩
  have sH:=DD.same.trans sm
  by_cases hkk:kk=vs.length
  · refine .inl ⟨⟨vs,lsq sH,by omega⟩,?_⟩
    have si:∀ s,((σ.set i (some (.ref p))).set j s)[i]?=some (some (.ref p)):=fun s=>by rw [List.getElem?_set_ne (Ne.symm hij),List.getElem?_set_self hip]
    have tp:=sm _ _ DD.tup
    have ea':=sm _ _ ea
    have eb':=sm _ _ eb
    have I0:∀ {H3:Hp},Same H H3→EnvAt X.K Z tm ((O.set i none).set j none) ((ρ.set i none).set j none) ((σ.set i (some (.ref p))).set j sj) H3:=fun s=>((I.same s).scrap _ npi).scrap _ npj
    refine ⟨.ref p,si sj,p,_,0,.ref la,rfl,rfl,SqT.of tp,rfl,.inl ⟨rfl,va,SqL.of ea'⟩,?_⟩
    refine ⟨_,_,_,I0 sH,h3,fun _ _ v1 H3 s3 _=>⟨la,va,v1,rfl,rfl,s3 _ _ ea',by rw [sizeLine_eq]; omega,?_⟩⟩
    have sH3:Same H (upd H3 la (.lst (va ++ [v1]))):=fun b o eb=>by
     rw [upd_ne (fun z=>by rw [z,na] at eb; cases eb)]
     exact s3 _ _ (sH _ _ eb)
    have tp3:upd H3 la (.lst (va ++ [v1])) p=some (.tup ([la,lb].map V.ref)):=by
     rw [upd_ne (fun z=>by rw [z,ea'] at tp; cases tp)]; exact s3 _ _ tp
    have eb3:upd H3 la (.lst (va ++ [v1])) lb=some (.lst vb):=by rw [upd_ne (Ne.symm nab)]; exact s3 _ _ eb'
    refine ⟨.ref p,si sj,p,_,1,.ref lb,rfl,rfl,SqT.of tp3,rfl,.inl ⟨rfl,vb,SqL.of eb3⟩,?_⟩
    refine ⟨_,_,_,I0 sH3,h4,fun _ _ v2 H4 s4 _=>⟨lb,vb,v2,rfl,rfl,s4 _ _ eb3,by rw [sizeLine_eq]; omega,?_⟩⟩
    have sH4:Same H (upd H4 lb (.lst (vb ++ [v2]))):=fun b o eb=>by
     rw [upd_ne (fun z=>by rw [z,nb] at eb; cases eb)]
     exact s4 _ _ (sH3 _ _ eb)
    exact ⟨_,_,d,I0 sH4,h5,F⟩
  · have hk':kk < vs.length:=by omega
    refine .inr ⟨⟨vs,vs[kk],lsq sH,List.getElem?_eq_getElem hk'⟩,fun σ'' H''=>(m - 1)+(kk+1)=vs.length∧(∃ sj,σ''=(σ.set i (some (.ref p))).set j sj)∧Same H1 H'',fun σ'' H'' hN=>⟨m - 1,by omega,hN⟩,?_⟩
    rintro xv H'' ⟨rfl,hy'⟩
    have ex:=hy' _ (lsq sH)
    rw [List.getElem?_eq_getElem hk'] at ex
    cases ex
    have hlw:kk < ws.length:=by rw [← hws.length]; exact hk'
    obtain ⟨v',e',at'⟩:=hws.get (List.getElem?_eq_getElem hlw)
    rw [List.getElem?_eq_getElem hk'] at e'
    cases e'
    have av':At X.K H1 (av Z (O.set i none)) ws[kk] vs[kk]:=(at'.same DD.same).fewer (av_none_sub i)
    have I2:EnvAt X.K Z tm _ ((ρ.set i (some (.tup [.lst t1,.lst t2],false))).set j (some (ws[kk],false))) ((σ.set i (some (.ref p))).set j (some vs[kk])) H'':=(I1.same sm).put npj (av'.same sm)
    show lB X Z tm fc2 (((σ.set i (some (.ref p))).set j sj).set j (some vs[kk])) H'' _
    rw [List.set_set]
    refine ⟨_,_,_,I2,h2 _ (List.getElem_mem hlw),fun b hb3 H3 s3=>?_⟩
    subst hb3
    rw [if_neg Bool.false_ne_true]
    exact ⟨by omega,⟨_,rfl⟩,sm.trans s3⟩
end
end VT
namespace K21L
open PySem L2 VT Gen K5 Lay BS K20 K21V
open PySem.Builtin (bitOr)
noncomputable abbrev pH (i:Int) (x:Str):Int×Str→Bool:=fun k=>decide (k=(i,x))
noncomputable def gHolds (ts:List T) (q:Rt→Prop):Prop:=∃ (E F:List Ent) (i:Int) (x:Str),ts=[.tup [.lst (E.map tri),.lst (F.map tri)],.int i,.str x]∧q (.vw (.int (orE (pH i x) E)))
noncomputable def gLaw (ts:List T) (q:Rt→Prop):Prop:=∃ ns:List Int,ts=[.lst (ns.map .int)]∧ns.length≤63∧q (.vw (.bl true))
structure MgL (mg:Str→Option Value):Prop where
 list:mg "list" = none
 sorted:mg "sorted" = none
theorem b_sorted:bootBuiltins "sorted" = some (.builtin "sorted"):=by decide +kernel
theorem rows_plain (rs:List Rw):plainT (.lst (rs.map rowT))=true:=by simp only [plainT]; exact plains_map rowT_plain rs
theorem rows_dep (rs:List Rw):dep (.lst (rs.map rowT))≤100:=by
 have:=deps_map (f:=rowT) (n:=2) rowT_dep rs
 simp only [dep]
 omega
noncomputable def entB (b:TS.Tr):Ent:=((b.1,b.2.1),b.2.2)
theorem tri_B (bs:List TS.Tr):bs.map TS.tT=(bs.map entB).map tri:=by rw [List.map_map]; rfl
theorem orE_fil (p:Int×Str→Bool) (E:List Ent):orE p (E.filter fun e=>!decide (e.2=0))=orE p E:=ib_ext fun k=>by
 unfold orE
 rw [ib_orE,ib_orE]
 congr 1
 rw [List.any_filter]
 congr 1
 funext e
 by_cases z:e.2=0
 · rw [z]; simp [BS.ib_zero]
 · simp [z]
theorem tell_holds {rs:List Rw} {ws:List Str} {h:Nat} {E:List Ent} (I:IE rs ws h E) {bs:List TS.Tr} (p:bs.Perm (trs E)) (x:Str):orE (pH (h:Int) x) (bs.map entB)=getE E ((h:Int),x):=by
 have p2:(bs.map entB).Perm (E.filter fun e=>!decide (e.2=0)):=by
  have:=p.map entB
  unfold trs at this
  rw [List.map_map] at this
  rw [show (entB ∘ fun e:Ent=>(e.1.1,e.1.2,e.2))=id from rfl,List.map_id] at this
  exact this
 rw [or_perm p2,orE_fil]
 have a:=get_or I.nd ((h:Int),x)
 rw [get_E] at a
 injection a with a
 exact a.symm
theorem dGet_mem {h:Nat}:∀ {E:List Ent},(E.map (·.1)).Nodup→(∀ e∈E,e.1.1=(h:Int))→∀ {e:Ent},e∈E→dGet (ksS E) (vsE E) (.inr e.1.2)=some (.int e.2)
 | [],_,_,_,he=>nomatch he
 | f :: E,nd,hk,e,he=>by
   have k:=key_iff hk List.mem_cons_self e.1.2
   show (if (Sum.inr f.1.2:Key) = .inr e.1.2 then some (T.int f.2) else dGet (ksS E) (vsE E) (.inr e.1.2))=_
   rw [List.map_cons,List.nodup_cons] at nd
   have ek:e.1=((h:Int),e.1.2):=Prod.ext (hk e he) rfl
   rcases List.mem_cons.mp he with z | z
   · rw [z,if_pos rfl]
   · rw [if_neg]
     · exact dGet_mem nd.2 (fun e he=>hk e (List.mem_cons_of_mem _ he)) z
     · intro q
       refine nd.1 ?_
       rw [k.mp q,← ek]
       exact List.mem_map_of_mem z
theorem Lv_tab (bs:List TS.Tr):Lv 4 (.tup [.lst (bs.map TS.tT),.lst []]):=by
 refine .inr (.inr (.inr ⟨_,rfl,fun u hu=>?_⟩))
 rcases List.mem_cons.mp hu with rfl | hu
 · refine .inr (.inr (.inl ⟨_,rfl,fun v hv=>?_⟩))
   obtain ⟨b,_,rfl⟩:=List.mem_map.mp hv
   refine .inr (.inr (.inr ⟨_,rfl,fun x hx=>?_⟩))
   rcases List.mem_cons.mp hx with rfl | hx
   · exact .inl ⟨_,rfl⟩
   rcases List.mem_cons.mp hx with rfl | hx
   · exact .inr (.inl ⟨_,rfl⟩)
   · rw [List.mem_singleton.mp hx]; exact .inl ⟨_,rfl⟩
 · rw [List.mem_singleton.mp hu]
   exact .inr (.inr (.inl ⟨_,rfl,fun v hv=>nomatch hv⟩))
section
variable {P:Program} {w:World} {K:PySem.W.Frag} {mg:Str→Option Value} {base:Heap}
noncomputable abbrev n_holds:List Str:=["table","home","name","told","part"]
theorem sc_holds:FnScope n_holds ["table","home","name"] (defScope s_holds):=⟨rfl,rfl,rfl,by decide +kernel,rfl,by decide +kernel,by decide +kernel⟩
theorem ok_holds {f:Addr} {fd:FuncData} (D:Df K mg "holds" s_holds ["table","home","name"] f fd):Cal P w K mg base "holds" ["table","home","name"] 1 (spP K 3 gHolds):=by
 refine D.cal (fnP D.F sc_holds rfl fun cdv A outer s H E Ox hr ts q hG=>?_)
 have nd:=sc_holds.nd
 have hu:=Room.u101 hr
 have np:∀ {i:Nat},NotPar ⟨H,[],Ox⟩ i:=np0
 have npf:∀ {is:List Nat},∀ i∈is,NotPar ⟨H,[],Ox⟩ i:=fun i _=>np0
 refine ⟨_,(vss_cons (vs_set (i:=3) nd rfl (Or.inl rfl) (VP.vx vp_int) np)
   (vss_cons (vs_for PassesOwn.never rfl (vi_seq (VP.ve (vp_ix (vr_var 0) (VP.vr vp_int)))) (vg_name (i:=4) nd rfl (Or.inl rfl) np)
     (vss_one (vs_if (VW.vc (vw_and (vc_eq hu (VP.vr (vp_ix (vr_var 4) (VP.vr vp_int))) (vr_var 1)) (vw_and1 (vc_eq hu (VP.vr (vp_ix (vr_var 4) (VP.vr vp_int))) (vr_var 2)))))
       (vss_one (vs_aug (i:=3) nd rfl (Or.inl rfl) (VP.vr (vp_ix (vr_var 4) (VP.vr vp_int))) iop_or opT_Bor np))
       vss_nil)))
   (vss_one (vs_ret (VP.vx (VE.vp (ve_var 3))))))),fun _=>?_⟩
 obtain ⟨E,F,i,x,rfl,hq⟩:=hG
 refine ⟨_,atI_nat (j:=0) rfl,?_⟩
 show LoopW (E.map tri) _ _ _ _
 refine loop_map (fun n ρ=>∃ v b4,ρ=[some (.tup [.lst (E.map tri),.lst (F.map tri)],false),some (.int i,false),some (.str x,false),some (.int v,false),b4]∧v=orE (pH i x) (E.take n)) ⟨_,none,rfl,rfl⟩ ?_ ?_
 · rintro n e ρ he ⟨_,b4,rfl,rfl⟩
   have hs:=or_take (p:=pH i x) he
   refine ⟨_,atI_nat (j:=0) rfl,iteD (fun z1=>⟨_,atI_nat (j:=1) rfl,iteD (fun z2=>?_) (fun z2=>?_)⟩) (fun z1=>?_)⟩
   · have hp:pH i x e.1=true:=decide_eq_true (Prod.ext z1 z2)
     refine ⟨_,atI_nat (j:=2) rfl,_,_,rfl,?_⟩
     rw [hs]; unfold stE; rw [if_pos hp]
   · have hp:¬ pH i x e.1=true:=fun z=>z2 (by rw [of_decide_eq_true z])
     refine ⟨_,_,rfl,?_⟩
     rw [hs]; unfold stE; rw [if_neg hp]
   · have hp:¬ pH i x e.1=true:=fun z=>z1 (by rw [of_decide_eq_true z])
     refine ⟨_,_,rfl,?_⟩
     rw [hs]; unfold stE; rw [if_neg hp]
 · rintro ρ ⟨_,b4,rfl,rfl⟩
   rw [List.take_length]
   exact hq
noncomputable abbrev n_law:List Str:=["_law_script","_law_words_here","_law_rows","_law_lent","_law_home","_law_some","_law_due_here","_law_table","_law_name"]
theorem sc_law:FnScope n_law ["_law_script"] (defScope s_law):=⟨rfl,rfl,rfl,by decide +kernel,rfl,by decide +kernel,by decide +kernel⟩
theorem nd_law_c0:((["_law_script","_law_words_here","_law_rows","_law_lent","_law_home","_law_some","_law_due_here","_law_table","#_law_name"]:List Str) ++ (["_law_name"]:List Str)).Nodup:=by decide +kernel
theorem nd_law_m0:(["_law_script","_law_words_here","_law_rows","_law_lent","_law_home","_law_some","_law_due_here","_law_table","#_law_name"]:List Str).Nodup:=by decide +kernel
theorem ok_law {f:Addr} {fd:FuncData} (D:Df K mg "law" s_law ["_law_script"] f fd) (M:MgL mg) (C_cell_at:Cal P w K mg base "_law_cell_at" ["_law_script","_law_k"] 1 (spP K 2 GenV.gCell)) (C_words:Cal P w K mg base "_law_words" ["_law_cell","_law_many"] 1 (spP K 2 GenV.gWords)) (C_program:Cal P w K mg base "_law_program" ["_law_script","_law_words_here"] 2 (spP K 2 gProg)) (C_due:Cal P w K mg base "_law_due" ["_law_rows"] 1 (spP K 1 gDue)) (C_makers:Cal P w K mg base "makers" ["program"] 6 (spD K 1 gMakers)) (C_holds:Cal P w K mg base "holds" ["table","home","name"] 1 (spP K 3 gHolds)) (C_same:Cal P w K mg base "_law_same" ["_law_found","_law_due_here"] 5 (spP K 2 (gSame 4))):FnOk P w K mg base CX0 7 f fd ["_law_script"] (spP K 1 gLaw):=by
 obtain ⟨f_cell_at,fd_cell_at,m_cell_at,k_cell_at,b_cell_at,F_cell_at⟩:=C_cell_at
 obtain ⟨f_words,fd_words,m_words,k_words,b_words,F_words⟩:=C_words
 obtain ⟨f_program,fd_program,m_program,k_program,b_program,F_program⟩:=C_program
 obtain ⟨f_due,fd_due,m_due,k_due,b_due,F_due⟩:=C_due
 obtain ⟨f_makers,fd_makers,m_makers,k_makers,b_makers,F_makers⟩:=C_makers
 obtain ⟨f_holds,fd_holds,m_holds,k_holds,b_holds,F_holds⟩:=C_holds
 obtain ⟨f_same,fd_same,m_same,k_same,b_same,F_same⟩:=C_same
 refine fnP D.F sc_law rfl fun cdv A outer s H E Ox hr ts q hG=>?_
 have nd:=sc_law.nd
 have hu:=Room.u101 hr
 have np:∀ {i:Nat},NotPar ⟨H,[],Ox⟩ i:=np0
 have npf:∀ {is:List Nat},∀ i∈is,NotPar ⟨H,[],Ox⟩ i:=fun i _=>np0
 have hu1:=u1_of hu
 refine ⟨_,(vss_cons (vs_set (i:=1) nd rfl (Or.inl rfl) (VP.vx (vp_call F_words (hr.mono (by decide)) (by rfl) m_words k_words b_words (va_cons (VP.ve (vp_call F_cell_at (hr.mono (by decide)) (by rfl) m_cell_at k_cell_at b_cell_at (va_cons (ve_var 0) (va_cons (VP.ve vp_int) va_nil)))) (va_cons (VP.ve vp_int) va_nil)))) np)
   (vss_cons (vs_set (i:=2) nd rfl (Or.inl rfl) (VP.vx (vp_call F_program (hr.mono (by decide)) (by rfl) m_program k_program b_program (va_cons (ve_var 0) (va_cons (ve_var 1) va_nil)))) np)
   (vss_cons (vs_set (i:=3) nd rfl (Or.inl rfl) (VP.vx (vp_callTy call_list_of callT_list (by rfl) M.list b_list (var_cons (vr_var 2) var_nil))) np)
   (vss_cons (vs_set (i:=4) nd rfl (Or.inr rfl) (VP.vx (vp_mod (VP.vr (vp_call F_cell_at (hr.mono (by decide)) (by rfl) m_cell_at k_cell_at b_cell_at (va_cons (ve_var 0) (va_cons (VP.ve vp_int) va_nil)))) (VP.vr vp_int))) np)
   (vss_cons (vs_own (i:=5) nd rfl (Or.inr rfl) (VP.vx (vp_call F_due (hr.mono (by decide)) (by rfl) m_due k_due b_due (va_cons (ve_var 2) va_nil))) np)
   (vss_iceK 5 np (vss_cons (vs_mask 8 "#_law_name" np (vs_set (i:=6) nd_law_m0 rfl (Or.inl rfl) (VP.vx (vp_tup (va_cons (VP.ve (vp_callB TS.call_sorted_triR TS.callT_sortR (by rfl) M.sorted b_sorted (var_cons (VP.vr (vp_comp (ts:=["_law_name"]) rfl (by rfl) (vi_dictK (ve_var 5)) (fun _ _ _ _ _ _=>(vg_name (i:=9) nd_law_c0 rfl (Or.inl rfl) np)) (fun _ _ _ _ _ _=>(vcs_one (vc_gt (VP.vr (vp_dixZ hu1 (vr_var 5) (vr_var 9))) (VP.vr vp_int)))) (fun _ _ _ _ _ _=>(VP.ve (vp_tup (va_cons (ve_var 4) (va_cons (ve_var 9) (va_cons (VP.ve (vp_dixZ hu1 (vr_var 5) (vr_var 9))) va_nil)))))))) var_nil))) (va_cons (VP.ve (vp_lst va_nil)) va_nil)))) np))
   (vss_spoil2 (i:=7) (j:=8) (k:=1) nd rfl (Or.inl rfl) rfl (Or.inl rfl) rfl (Or.inl rfl) (Or.inl rfl) PassesOwn.never rfl np np (vd_call F_makers (hr.mono (by decide)) (by rfl) m_makers k_makers b_makers (va_cons (ve_var 3) va_nil))
     (vc_not (vc_val (vp_call F_same (hr.mono (by decide)) (by rfl) m_same k_same b_same (va_cons (ve_var 7) (va_cons (ve_var 6) va_nil)))))
     (vc_not (vc_val (vp_call F_same (hr.mono (by decide)) (by rfl) m_same k_same b_same (va_cons (VP.ve (vp_call F_holds (hr.mono (by decide)) (by rfl) m_holds k_holds b_holds (va_cons (ve_var 7) (va_cons (ve_var 4) (va_cons (ve_var 8) va_nil))))) (va_cons (VP.ve (vp_dgZ hu1 (vr_var 5) (vr_var 8) (VP.ve vp_int) ⟨rfl,rfl,rfl,rfl⟩)) va_nil)))))
     (VP.ve (vp_tup (va_cons (ve_var 4) (va_cons (VP.ve vp_str) (va_cons (VP.ve vp_int) va_nil)))))
     (VP.ve (vp_tup (va_cons (ve_var 4) (va_cons (VP.ve vp_str) (va_cons (VP.ve vp_int) va_nil)))))
     (vss_one (vs_ret (VP.vx (vp_and (vp_call F_same (hr.mono (by decide)) (by rfl) m_same k_same b_same (va_cons (VP.ve (VD.vp (vd_call F_makers (hr.mono (by decide)) (by rfl) m_makers k_makers b_makers (va_cons (ve_var 3) va_nil)))) (va_cons (ve_var 6) va_nil))) (vp_one (vp_eq hu (vr_var 3) (vr_var 2))))))))))))))),fun _=>?_⟩
 obtain ⟨ns,rfl,h63,hq⟩:=hG
 have hy4:(wordsL (ns.getD 0 0) 4).length=4:=wordsL_len _ _
 refine ⟨rfl,ns,0,rfl,rfl,_,4,rfl,by decide,by decide,?_⟩
 generalize wordsL (ns.getD 0 0) 4=ys at hy4 ⊢
 refine ⟨rfl,ns,ys,rfl,hy4,h63,fun a f ps body g b ea hbl hb2 hbo=>?_⟩
 have ha4:a < 4:=by have:=Int.emod_lt_of_pos (ns.getD 1 0) (show (0:Int) < 4 by decide); omega
 have W:WFR (progR a f ps body g b):=prog_wf hbo
 have hn:(progR a f ps body g b).length≤100:=by rw [prog_len]; omega
 have hok:=prog_ok (a:=a) (f:=f) (ps:=ps) (g:=g) (b:=b) hbo
 have Y:=prog_hyp (a:=a) (f:=f) (ps:=ps) (g:=g) (b:=b) hbo
 generalize progR a f ps body g b=rs at W hn hok Y ⊢
 refine ⟨rfl,ns,1,rfl,(by show (0:Int) < 4; decide),?_⟩
 rw [← ea]
 refine ⟨rfl,rs,ys,a,rfl,hn,Y,hy4,hok,fun o=>?_⟩
 have I:=ie_t Y 4
 generalize eE:lwT a rs 4=E at I ⊢
 have kE:∀ e∈E,e.1.1=(a:Int):=fun e he=>(I.ks e he).1
 have hl:=I.len
 have ek:(ksS E).map kT=E.map fun e=>T.str e.1.2:=by unfold ksS; rw [List.map_map]; rfl
 refine ⟨rfl,(by show ((ksS E).map kT).length≤sizeLine; rw [ek,List.length_map]; exact le8 (by omega)),?_⟩
 show wComp _ _ _ _ ((ksS E).map kT) _
 rw [ek]
 refine wComp_filL (u:=fun e:Ent=>TS.tT ((a:Int),e.1.2,e.2)) (p:=fun e=>decide (0 < e.2)) (fun _ _ _ _ _=>trivial) (fun e he k s hk=>?_) ?_
 · refine ⟨_,dGet_mem I.nd kE he,?_⟩
   show if decide (0 < e.2)=true then _ else _
   by_cases z:decide (0 < e.2)=true
   · rw [if_pos z] at hk ⊢
     exact ⟨_,dGet_mem I.nd kE he,le8 (by simp),hk⟩
   · rw [if_neg z] at hk ⊢
     exact hk
 have et:(E.filter fun e=>decide (0 < e.2)).map (fun e:Ent=>TS.tT ((a:Int),e.1.2,e.2))=(trs E).map TS.tT:=by
  unfold trs
  rw [List.map_map]
  have ef:(E.filter fun e=>decide (0 < e.2))=E.filter fun e=>!decide (e.2=0):=List.filter_congr fun e he=>by
   have h0:0≤e.2:=by
    have:=I.nn e.1.2
    rw [← (I.ks e he).1] at this
    rw [← mem_get I.nd he]; exact this
   by_cases z:e.2=0
   · simp [z]
   · simp [z]; omega
  rw [ef]
  refine List.map_congr_left fun e he=>?_
  rw [← kE e (List.mem_filter.mp he).1]; rfl
 rw [et]
 have tl:(trs E).length≤4:=by
  unfold trs
  rw [List.length_map]
  have:=List.length_filter_le (fun e:Ent=>!decide (e.2=0)) E
  omega
 refine ⟨trs E,rfl,by omega,trs_nd I.good,fun bs p srt=>?_⟩
 have bl:bs.length≤4:=by rw [p.length_eq]; exact tl
 have mk:∀ q',(∀ cs:List TS.Tr,cs=bs→q' [.lst (cs.map TS.tT),.lst []])→gMakers [.lst (rs.map rowT)] q':=fun q' h=>⟨rs,ys,a,rfl,W,hn,hok,Y,hy4,fun cs p2 srt2=>h cs (TS.sorted_eq srt2 srt (by rw [eE] at p2; exact p2.trans p.symm))⟩
 refine ⟨Nat.zero_le _,le8 (by simp),?_⟩
 refine ⟨rfl,mk _ fun cs ec=>?_⟩
 subst ec
 refine ⟨⟨(by show 7 < 9; decide),(by show 8 < 9; decide),by decide,by decide⟩,cs.map TS.tT,[],ys.map .str,rfl,by rw [List.length_map]; omega,by decide,rfl,⟨rfl,_,rfl,Lv_tab cs,rfl⟩,fun t ht=>?_,⟨le8 (by simp),trivial⟩,⟨le8 (by simp),trivial⟩,?_⟩
 · obtain ⟨y,_,rfl⟩:=List.mem_map.mp ht
   refine ⟨rfl,cs.map entB,[],(a:Int),y,(by rw [← tri_B]; rfl),rfl,.int (getE E ((a:Int),y)),?_,.inl ⟨_,rfl⟩,rfl⟩
   show [T.int (orE (pH (a:Int) y) (cs.map entB)),(dGet (ksS E) (vsE E) (.inr y)).getD (.int 0)]=_
   rw [tell_holds I p y,dGet_S y kE]
 · refine ⟨rfl,mk _ fun cs2 ec=>?_⟩
   subst ec
   have hp:=rows_plain rs
   refine ⟨rfl,_,rfl,Lv_tab _,hp,hp,rows_dep rs,?_⟩
   show q (.vw (.bl (eqT (.lst (rs.map rowT)) (.lst (rs.map rowT)))))
   rw [eqT_refl _ hp]
   exact hq
end
end K21L
namespace K21Z
open PySem L2 VT
theorem df_mk {K:PySem.W.Frag} {h:Heap} {mg:Str→Option Value} (X:K.In h) (G:h.Ns mainGlobals mg) {x:Str} {st:Stmt} {ps:List Str} {f:Addr} {oc:Value} {od an:Option Addr} {osl:Array (Option Value)} {kV doc pm cdv ct:Value}
  (a:PySem.W.nsIn K mainGlobals x=some (some (.ref f))) (l:K.lookup f=some ⟨oc,od,.func (PySem.W.fnOf x x (defArgs st) (defBody st) (defScope st) .none kV doc pm an cdv ct),osl⟩)
  (c:PySem.W.codeIn K cdv x=true) (k:PySem.W.keepIn K (.ref f)=true)
  (hb:∀ (kV doc pm:Value) (an:Option Addr) (cdv ct:Value) (us:List Value),us.length=ps.length→bindArgs (PySem.W.fnOf x x (defArgs st) (defBody st) (defScope st) .none kV doc pm an cdv ct) ⟨us,[]⟩=pure (ps.zip us)) :
  ∃ f fd,Df K mg x st ps f fd:=by
 have F:=fun_mk (st:=st) l c k
 exact ⟨f,_,F,PySem.W.mg_of X G a,F.binds hb⟩
theorem arg0 {C:List Value→Prop} (h:C []):∀ us:List Value,us.length=0→C us
 | [],_=>h
theorem argS {n:Nat} {C:List Value→Prop} (h:∀ a,∀ us:List Value,us.length=n→C (a :: us)):∀ us:List Value,us.length=n+1→C us
 | a :: us,e=>h a us (Nat.succ.inj e)
theorem arg1 {C:List Value→Prop} (h:∀ a,C [a]):∀ us:List Value,us.length=1→C us:=argS fun a=>arg0 (h a)
structure Defs (K:PySem.W.Frag) (mg:Str→Option Value):Prop where
 d0:∃ f fd,Df K mg "shape" K5V.s_shape ["program"] f fd
 d1:∃ f fd,Df K mg "first_defs" Lay.s_first_defs ["program"] f fd
 d2:∃ f fd,Df K mg "list_of" K21V.s_list_of ["held"] f fd
 d3:∃ f fd,Df K mg "wants" K21V.s_wants ["layout","sets","place"] f fd
 d4:∃ f fd,Df K mg "grown" K21V.s_grown ["layout","sets"] f fd
 d5:∃ f fd,Df K mg "makers" K21V.s_makers ["program"] f fd
 d6:∃ f fd,Df K mg "holds" K21L.s_holds ["table","home","name"] f fd
 d7:∃ f fd,Df K mg "_law_cell_at" GenV.s_cell_at ["_law_script","_law_k"] f fd
 d8:∃ f fd,Df K mg "_law_words" GenV.s_words ["_law_cell","_law_many"] f fd
 d9:∃ f fd,Df K mg "_law_same" K21L.s_same ["_law_found","_law_due_here"] f fd
 d10:∃ f fd,Df K mg "_law_row" K21L.s_row ["_law_cell","_law_words_here"] f fd
 d11:∃ f fd,Df K mg "_law_program" K21L.s_program ["_law_script","_law_words_here"] f fd
 d12:∃ f fd,Df K mg "_law_due" K21L.s_due ["_law_rows"] f fd
theorem law_mk {l:PySem.W.OpenLaw} {w:World} {K:PySem.W.Frag} {h:Heap} {mg:Str→Option Value} {fa:Addr} (X:K.In h) (G:h.Ns mainGlobals mg) (hfa:mg "law" = some (.ref fa))
  {f:Addr} {oc:Value} {od an:Option Addr} {osl:Array (Option Value)} {kV doc pm cdv ct:Value}
  (a:PySem.W.nsIn K mainGlobals "law" = some (some (.ref f))) (l4:K.lookup f=some ⟨oc,od,.func (PySem.W.fnOf "law" "law" (defArgs K21L.s_law) (defBody K21L.s_law) (defScope K21L.s_law) .none kV doc pm an cdv ct),osl⟩)
  (c:PySem.W.codeIn K cdv "law" = true) (k:PySem.W.keepIn K (.ref f)=true)
  {at5:Addr} {ot5:Option Addr} {tt5_0 tt5_1:Tok} {nt5:Nat} {lt5:Array (Option Value)} (mt5:PySem.W.nsIn K mainGlobals "CLOSERS" = some (some (.ref at5))) (mu5:K.lookup at5=some ⟨.type "tuple",ot5,.seq #[.str "give" tt5_0,.str "end" tt5_1] nt5,lt5⟩)
  {at6:Addr} {ot6:Option Addr} {tt6_0 tt6_1 tt6_2:Tok} {nt6:Nat} {lt6:Array (Option Value)} (mt6:PySem.W.nsIn K mainGlobals "OPENERS" = some (some (.ref at6))) (mu6:K.lookup at6=some ⟨.type "tuple",ot6,.seq #[.str "def" tt6_0,.str "if" tt6_1,.str "while" tt6_2] nt6,lt6⟩)
  (zn_isinstance:PySem.W.nsIn K mainGlobals "isinstance" = some none)
  (zn_int:PySem.W.nsIn K mainGlobals "int" = some none)
  (zn_str:PySem.W.nsIn K mainGlobals "str" = some none)
  (zn_bool:PySem.W.nsIn K mainGlobals "bool" = some none)
  (zn_len:PySem.W.nsIn K mainGlobals "len" = some none)
  (zn_tuple:PySem.W.nsIn K mainGlobals "tuple" = some none)
  (zn_zip:PySem.W.nsIn K mainGlobals "zip" = some none)
  (zn_range:PySem.W.nsIn K mainGlobals "range" = some none)
  (zn_list:PySem.W.nsIn K mainGlobals "list" = some none)
  (zn_enumerate:PySem.W.nsIn K mainGlobals "enumerate" = some none)
  (zn_min:PySem.W.nsIn K mainGlobals "min" = some none)
  (zn_sum:PySem.W.nsIn K mainGlobals "sum" = some none)
  (zn_sorted:PySem.W.nsIn K mainGlobals "sorted" = some none)
  {cC_Layout fC_Layout:Addr} {oC_Layout kC_Layout dC_Layout pC_Layout eC_Layout tC_Layout:Value} {uC_Layout nC_Layout:Option Addr} {sC_Layout:Array (Option Value)} (aC_Layout:PySem.W.nsIn K mainGlobals "Layout" = some (some (.ref cC_Layout)))
  (iC_Layout:PySem.W.findIn K (.ref cC_Layout) "__init__" = some (some (.ref fC_Layout))) (jC_Layout:PySem.W.isFn K (.ref fC_Layout)=true) (lC_Layout:K.lookup fC_Layout=some ⟨oC_Layout,uC_Layout,.func (PySem.W.fnOf "__init__" "Layout.__init__" (defArgs Lay.s_Layout) (defBody Lay.s_Layout) (defScope Lay.s_Layout) .none kC_Layout dC_Layout pC_Layout nC_Layout eC_Layout tC_Layout),sC_Layout⟩)
  (gC_Layout:PySem.W.codeIn K eC_Layout "Layout.__init__" = true) (hC_Layout:PySem.W.keepIn K (.ref fC_Layout)=true)
  (c1_Layout:PySem.W.plainGet K cC_Layout Str.empty=true) (c2_Layout:PySem.W.hasDictIn K cC_Layout=true) (c3_Layout:PySem.W.plainOver K cC_Layout=true) (c4_Layout:PySem.W.findIn K (.ref cC_Layout) "__setattr__" = some (some (.builtin "object.__setattr__"))) (c5_Layout:PySem.W.makesIn K cC_Layout=true) (c6_Layout:PySem.W.keepIn K (.ref cC_Layout)=true)
  (v_Layout_program:PySem.W.findIn K (.ref cC_Layout) "program" = some none) (v_Layout_heads:PySem.W.findIn K (.ref cC_Layout) "heads" = some none) (v_Layout_ends:PySem.W.findIn K (.ref cC_Layout) "ends" = some none) (v_Layout_elses:PySem.W.findIn K (.ref cC_Layout) "elses" = some none) (v_Layout_homes:PySem.W.findIn K (.ref cC_Layout) "homes" = some none) (v_Layout_defs:PySem.W.findIn K (.ref cC_Layout) "defs" = some none) (v_Layout_main:PySem.W.findIn K (.ref cC_Layout) "main" = some none)
  {cC_Sets fC_Sets:Addr} {oC_Sets kC_Sets dC_Sets pC_Sets eC_Sets tC_Sets:Value} {uC_Sets nC_Sets:Option Addr} {sC_Sets:Array (Option Value)} (aC_Sets:PySem.W.nsIn K mainGlobals "Sets" = some (some (.ref cC_Sets)))
  (iC_Sets:PySem.W.findIn K (.ref cC_Sets) "__init__" = some (some (.ref fC_Sets))) (jC_Sets:PySem.W.isFn K (.ref fC_Sets)=true) (lC_Sets:K.lookup fC_Sets=some ⟨oC_Sets,uC_Sets,.func (PySem.W.fnOf "__init__" "Sets.__init__" (defArgs K21V.s_Sets) (defBody K21V.s_Sets) (defScope K21V.s_Sets) .none kC_Sets dC_Sets pC_Sets nC_Sets eC_Sets tC_Sets),sC_Sets⟩)
  (gC_Sets:PySem.W.codeIn K eC_Sets "Sets.__init__" = true) (hC_Sets:PySem.W.keepIn K (.ref fC_Sets)=true)
  (c1_Sets:PySem.W.plainGet K cC_Sets Str.empty=true) (c2_Sets:PySem.W.hasDictIn K cC_Sets=true) (c3_Sets:PySem.W.plainOver K cC_Sets=true) (c4_Sets:PySem.W.findIn K (.ref cC_Sets) "__setattr__" = some (some (.builtin "object.__setattr__"))) (c5_Sets:PySem.W.makesIn K cC_Sets=true) (c6_Sets:PySem.W.keepIn K (.ref cC_Sets)=true)
  (v_Sets_names:PySem.W.findIn K (.ref cC_Sets) "names" = some none) (v_Sets_cells:PySem.W.findIn K (.ref cC_Sets) "cells" = some none)
  (D:Defs K mg) :
  ∃ fd:FuncData,(∀ (s:Shared) (v:Value),BindsTo s fd ⟨[v],[]⟩ [("_law_script",v)])∧∀ base:Heap,K.In base→base.Ns mainGlobals mg→FnOk l.prog w K mg base CX0 7 fa fd ["_law_script"] (spP K 1 K21L.gLaw):=by
 have e:=hfa.symm.trans (PySem.W.mg_of X G a)
 cases e
 have L_Layout:Lay.LyC K cC_Layout:=⟨⟨c1_Layout,c2_Layout,c3_Layout,c4_Layout⟩,v_Layout_program,v_Layout_heads,v_Layout_ends,v_Layout_elses,v_Layout_homes,v_Layout_defs,v_Layout_main⟩
 have FC_Layout:=fun_mk (st:=Lay.s_Layout) lC_Layout gC_Layout hC_Layout
 have DC_Layout:Dc K mg "Layout" "Layout.__init__" Lay.s_Layout ["self","program"] cC_Layout fC_Layout _:=⟨FC_Layout,PySem.W.mg_of X G aC_Layout,FC_Layout.binds (fun _ _ _ _ _ _=>(K21Z.argS fun _=>(K21Z.argS fun _=>(K21Z.arg0 rfl)))),⟨c5_Layout,iC_Layout,jC_Layout,c6_Layout⟩⟩
 have L_Sets:K21V.StC K cC_Sets:=⟨⟨c1_Sets,c2_Sets,c3_Sets,c4_Sets⟩,v_Sets_names,v_Sets_cells⟩
 have FC_Sets:=fun_mk (st:=K21V.s_Sets) lC_Sets gC_Sets hC_Sets
 have DC_Sets:Dc K mg "Sets" "Sets.__init__" K21V.s_Sets ["self","names","cells"] cC_Sets fC_Sets _:=⟨FC_Sets,PySem.W.mg_of X G aC_Sets,FC_Sets.binds (fun _ _ _ _ _ _=>(K21Z.argS fun _=>(K21Z.argS fun _=>(K21Z.argS fun _=>(K21Z.arg0 rfl))))),⟨c5_Sets,iC_Sets,jC_Sets,c6_Sets⟩⟩
 have M5:K5V.Mg5 K mg:=⟨(PySem.W.mg_none_of X G zn_len),(PySem.W.mg_none_of X G zn_range),(PySem.W.mg_none_of X G zn_enumerate),(PySem.W.mg_none_of X G zn_isinstance),(PySem.W.mg_none_of X G zn_int),(PySem.W.mg_none_of X G zn_bool),(PySem.W.mg_none_of X G zn_tuple),(PySem.W.mg_none_of X G zn_list),(PySem.W.mg_none_of X G zn_zip),⟨at5,PySem.W.mg_of X G mt5,fun H=>.inr ⟨_,_,_,mu5,rfl,rfl,Gen.small (by simp),.cons ⟨_,rfl⟩ (.cons ⟨_,rfl⟩ (.nil))⟩⟩,⟨at6,PySem.W.mg_of X G mt6,fun H=>.inr ⟨_,_,_,mu6,rfl,rfl,Gen.small (by simp),.cons ⟨_,rfl⟩ (.cons ⟨_,rfl⟩ (.cons ⟨_,rfl⟩ (.nil)))⟩⟩⟩
 have MF:Lay.MgF mg:=⟨(PySem.W.mg_none_of X G zn_enumerate)⟩
 have MLy:Lay.MgLy mg:=⟨(PySem.W.mg_none_of X G zn_len),(PySem.W.mg_none_of X G zn_min)⟩
 have MP:K21V.MgP mg:=⟨(PySem.W.mg_none_of X G zn_enumerate),(PySem.W.mg_none_of X G zn_sorted)⟩
 have MG:GenV.MgG mg:=⟨(PySem.W.mg_none_of X G zn_len),(PySem.W.mg_none_of X G zn_range),(PySem.W.mg_none_of X G zn_tuple),(PySem.W.mg_none_of X G zn_sum)⟩
 have ME:K21L.MgE mg:=⟨(PySem.W.mg_none_of X G zn_range),(PySem.W.mg_none_of X G zn_tuple)⟩
 have MD:K21L.MgF mg:=⟨(PySem.W.mg_none_of X G zn_range),(PySem.W.mg_none_of X G zn_enumerate),(PySem.W.mg_none_of X G zn_isinstance),(PySem.W.mg_none_of X G zn_str)⟩
 have MS:K21L.MgS mg:=⟨(PySem.W.mg_none_of X G zn_isinstance),(PySem.W.mg_none_of X G zn_str),(PySem.W.mg_none_of X G zn_int),(PySem.W.mg_none_of X G zn_bool),(PySem.W.mg_none_of X G zn_list),(PySem.W.mg_none_of X G zn_tuple),(PySem.W.mg_none_of X G zn_len),(PySem.W.mg_none_of X G zn_zip)⟩
 have ML:K21L.MgL mg:=⟨(PySem.W.mg_none_of X G zn_list),(PySem.W.mg_none_of X G zn_sorted)⟩
 obtain ⟨f0,fd0,D0⟩:=D.d0
 obtain ⟨f1,fd1,D1⟩:=D.d1
 obtain ⟨f2,fd2,D2⟩:=D.d2
 obtain ⟨f3,fd3,D3⟩:=D.d3
 obtain ⟨f4,fd4,D4⟩:=D.d4
 obtain ⟨f5,fd5,D5⟩:=D.d5
 obtain ⟨f6,fd6,D6⟩:=D.d6
 obtain ⟨f7,fd7,D7⟩:=D.d7
 obtain ⟨f8,fd8,D8⟩:=D.d8
 obtain ⟨f9,fd9,D9⟩:=D.d9
 obtain ⟨f10,fd10,D10⟩:=D.d10
 obtain ⟨f11,fd11,D11⟩:=D.d11
 obtain ⟨f12,fd12,D12⟩:=D.d12
 have F:=fun_mk (st:=K21L.s_law) l4 c k
 have DL:Df K mg "law" K21L.s_law ["_law_script"] fa _:=⟨F,hfa,F.binds (fun _ _ _ _ _ _=>arg1 fun _=>rfl)⟩
 refine ⟨PySem.W.fnOf "law" "law" (defArgs K21L.s_law) (defBody K21L.s_law) (defScope K21L.s_law) .none kV doc pm an cdv ct,fun s v=>.of_eq rfl,fun base _ _=>?_⟩
 have c_shape:=K5V.ok_shape (P:=l.prog) (w:=w) (base:=base) D0 M5
 have c_first_defs:=Lay.ok_first_defs (P:=l.prog) (w:=w) (base:=base) D1 MF
 have c_Layout:=Lay.ok_Layout (P:=l.prog) (w:=w) (base:=base) DC_Layout MLy L_Layout c_shape c_first_defs
 have c_Sets:=K21V.ok_Sets (P:=l.prog) (w:=w) (base:=base) DC_Sets L_Sets
 have c_list_of:=K21V.ok_list_of (P:=l.prog) (w:=w) (base:=base) D2 MP
 have c_wants:=K21V.ok_wants (P:=l.prog) (w:=w) (base:=base) D3 L_Layout L_Sets
 have c_grown:=K21V.ok_grown (P:=l.prog) (w:=w) (base:=base) D4 L_Layout MP c_wants
 have c_makers:=K21V.ok_makers (P:=l.prog) (w:=w) (base:=base) D5 L_Layout L_Sets c_Layout c_Sets c_grown c_list_of
 have c_holds:=K21L.ok_holds (P:=l.prog) (w:=w) (base:=base) D6
 have c__law_cell_at:=GenV.ok_cell_at (P:=l.prog) (w:=w) (base:=base) D7 MG
 have c__law_words:=GenV.ok_words (P:=l.prog) (w:=w) (base:=base) D8 MG
 have c__law_same:=K21L.ok_same (P:=l.prog) (w:=w) (base:=base) D9 MS
 have c__law_row:=K21L.ok_row (P:=l.prog) (w:=w) (base:=base) D10
 have c__law_program:=K21L.ok_program (P:=l.prog) (w:=w) (base:=base) D11 ME c__law_cell_at c__law_row
 have c__law_due:=K21L.ok_due (P:=l.prog) (w:=w) (base:=base) D12 MD
 exact K21L.ok_law (P:=l.prog) (w:=w) (base:=base) DL ML c__law_cell_at c__law_words c__law_program c__law_due c_makers c_holds c__law_same
theorem walk {l:PySem.W.OpenLaw} {q:Program} {loose:List Str} {XP:(Str→Option Value)→Heap→Prop} {YP:World→Heap→Prop} {d:DefRec} {K:Params→PySem.W.Frag} (hn:l.most=some 63) (hdf:d.params.defaults=[])
  (hY:∀ (w:World) (h:Heap),YP w h→(K w.params).In h)
  (F:∀ (w:World) (mg:Str→Option Value) (fa:Addr) (h:Heap),(K w.params).In h→h.Ns mainGlobals mg→mg d.name=some (.ref fa) →
    ∃ fd:FuncData,(∀ (s:Shared) (u:Value),BindsTo s fd ⟨[u],[]⟩ [("_law_script",u)])∧∀ base:Heap,(K w.params).In base→base.Ns mainGlobals mg→FnOk l.prog w (K w.params) mg base CX0 7 fa fd ["_law_script"] (spP (K w.params) 1 K21L.gLaw)) :
  PySem.W.WalkO q loose XP YP l.row.toRowW d [] (fun f vs=>PySem.call f vs) :=
 L2.walk_of (n:=63) (k:=7) (x:="_law_script") (CX:=fun _=>CX0) (sp:=fun w=>spP (K w.params) 1 K21L.gLaw) hn (by decide) hdf ⟨rfl,by decide,by decide⟩ hY F (fun w H a ns hl _ hS =>
  ⟨[.lst (ns.map .int)],[],[],fun _ r=>r = .vw (.bl true),List.nodup_nil,fun _ z=>(nomatch z),fun _ z=>(nomatch z),args_views rfl (AtL.cons (by
     simp only [At]
     refine ⟨a,ns.map V.int,rfl,hS.imp (fun z=>⟨z,fun m=>nomatch m⟩) id,?_⟩
     clear hS hl
     induction ns with
     | nil=>exact AtL.nil
     | cons n ns ih=>exact AtL.cons at_int ih) AtL.nil),⟨ns,rfl,hl,rfl⟩,fun us r hr v H' _ z=>by
     subst hr
     have:=z.1
     simpa only [At] using this⟩) fun _ _ _ _ _ z=>z
theorem walkX_of {q:Program} {loose:List Str} {XP:(Str→Option Value)→Heap→Prop} {K:Params→PySem.W.Frag} {as:List Addr} {n t:Nat} {r:PySem.W.RowW} {d:DefRec} {kwd:List (Str×Expr)} {run:Value→List Value→Sem Value} (e:∀ P,as=(K P).map (·.1))
  (h:PySem.W.WalkO q loose XP (fun w h=>(K w.params).In h) r d kwd run):PySem.W.WalkX q loose XP (PySem.W.X.obsZ as) (PySem.W.X.valZ K n t) r d kwd run :=
 fun w s₀ s₁ mg mb G y a o pm cd doc dV kV h1 h2 h3 h4 h5 h6 args vals as' L hpre hlay hrd hwl hlo=>h w s₀ s₁ mg mb G (PySem.W.InK.keeps w _ _ (PySem.W.X.z_facts e y).2.1 (PySem.W.Laid.keeps L)) a o pm cd doc dV kV h1 h2 h3 h4 h5 h6 args vals as' hpre hlay hrd hwl hlo
end K21Z
open PySem PySem.W PyProof.Rows
set_option maxRecDepth 100000 in
set_option maxHeartbeats 0 in
theorem PySem.Challenge.cw_slicewise_k21_names_put_about_holds : PySem.Challenge.rw_slicewise_k21_names_put_about.Holds := by
 w_on; o_law; z_head; (case hw=>w_witness2)
 refine K21Z.walkX_of (fun _=>by kernel_rfl) ?_
 refine K21Z.walk (l:=PySem.Challenge.rw_slicewise_k21_names_put_about) rfl rfl (fun w h Y=>Y) ?F
 case F =>
  intro w mg fa h KX G hmg
  refine' K21Z.law_mk KX G hmg ?a ?l ?c ?k ?mt5 ?mu5 ?mt6 ?mu6 ?zn_isinstance ?zn_int ?zn_str ?zn_bool ?zn_len ?zn_tuple ?zn_zip ?zn_range ?zn_list ?zn_enumerate ?zn_min ?zn_sum ?zn_sorted ?aC_Layout ?iC_Layout ?jC_Layout ?lC_Layout ?gC_Layout ?hC_Layout ?c1_Layout ?c2_Layout ?c3_Layout ?c4_Layout ?c5_Layout ?c6_Layout ?v_Layout_program ?v_Layout_heads ?v_Layout_ends ?v_Layout_elses ?v_Layout_homes ?v_Layout_defs ?v_Layout_main ?aC_Sets ?iC_Sets ?jC_Sets ?lC_Sets ?gC_Sets ?hC_Sets ?c1_Sets ?c2_Sets ?c3_Sets ?c4_Sets ?c5_Sets ?c6_Sets ?v_Sets_names ?v_Sets_cells ⟨?d0,?d1,?d2,?d3,?d4,?d5,?d6,?d7,?d8,?d9,?d10,?d11,?d12⟩
  (case a=>k_is); (case l=>k_is); (case c=>k_is); (case k=>k_is)
  (case mt5=>k_is)
  (case mu5=>k_is)
  (case mt6=>k_is)
  (case mu6=>k_is)
  (case zn_isinstance=>k_is)
  (case zn_int=>k_is)
  (case zn_str=>k_is)
  (case zn_bool=>k_is)
  (case zn_len=>k_is)
  (case zn_tuple=>k_is)
  (case zn_zip=>k_is)
  (case zn_range=>k_is)
  (case zn_list=>k_is)
  (case zn_enumerate=>k_is)
  (case zn_min=>k_is)
  (case zn_sum=>k_is)
  (case zn_sorted=>k_is)
  (case aC_Layout=>k_is)
  (case iC_Layout=>k_is)
  (case jC_Layout=>k_is)
  (case lC_Layout=>k_is)
  (case gC_Layout=>k_is)
  (case hC_Layout=>k_is)
  (case c1_Layout=>k_is)
  (case c2_Layout=>k_is)
  (case c3_Layout=>k_is)
  (case c4_Layout=>k_is)
  (case c5_Layout=>k_is)
  (case c6_Layout=>k_is)
  (case v_Layout_program=>k_is)
  (case v_Layout_heads=>k_is)
  (case v_Layout_ends=>k_is)
  (case v_Layout_elses=>k_is)
  (case v_Layout_homes=>k_is)
  (case v_Layout_defs=>k_is)
  (case v_Layout_main=>k_is)
  (case aC_Sets=>k_is)
  (case iC_Sets=>k_is)
  (case jC_Sets=>k_is)
  (case lC_Sets=>k_is)
  (case gC_Sets=>k_is)
  (case hC_Sets=>k_is)
  (case c1_Sets=>k_is)
  (case c2_Sets=>k_is)
  (case c3_Sets=>k_is)
  (case c4_Sets=>k_is)
  (case c5_Sets=>k_is)
  (case c6_Sets=>k_is)
  (case v_Sets_names=>k_is)
  (case v_Sets_cells=>k_is)
  (case d0=>refine' K21Z.df_mk KX G ?a ?l ?c ?k (fun _ _ _ _ _ _=>(K21Z.argS fun _=>(K21Z.arg0 rfl))); (case a=>k_is); (case l=>k_is); (case c=>k_is); (case k=>k_is))
  (case d1=>refine' K21Z.df_mk KX G ?a ?l ?c ?k (fun _ _ _ _ _ _=>(K21Z.argS fun _=>(K21Z.arg0 rfl))); (case a=>k_is); (case l=>k_is); (case c=>k_is); (case k=>k_is))
  (case d2=>refine' K21Z.df_mk KX G ?a ?l ?c ?k (fun _ _ _ _ _ _=>(K21Z.argS fun _=>(K21Z.arg0 rfl))); (case a=>k_is); (case l=>k_is); (case c=>k_is); (case k=>k_is))
  (case d3=>refine' K21Z.df_mk KX G ?a ?l ?c ?k (fun _ _ _ _ _ _=>(K21Z.argS fun _=>(K21Z.argS fun _=>(K21Z.argS fun _=>(K21Z.arg0 rfl))))); (case a=>k_is); (case l=>k_is); (case c=>k_is); (case k=>k_is))
  (case d4=>refine' K21Z.df_mk KX G ?a ?l ?c ?k (fun _ _ _ _ _ _=>(K21Z.argS fun _=>(K21Z.argS fun _=>(K21Z.arg0 rfl)))); (case a=>k_is); (case l=>k_is); (case c=>k_is); (case k=>k_is))
  (case d5=>refine' K21Z.df_mk KX G ?a ?l ?c ?k (fun _ _ _ _ _ _=>(K21Z.argS fun _=>(K21Z.arg0 rfl))); (case a=>k_is); (case l=>k_is); (case c=>k_is); (case k=>k_is))
  (case d6=>refine' K21Z.df_mk KX G ?a ?l ?c ?k (fun _ _ _ _ _ _=>(K21Z.argS fun _=>(K21Z.argS fun _=>(K21Z.argS fun _=>(K21Z.arg0 rfl))))); (case a=>k_is); (case l=>k_is); (case c=>k_is); (case k=>k_is))
  (case d7=>refine' K21Z.df_mk KX G ?a ?l ?c ?k (fun _ _ _ _ _ _=>(K21Z.argS fun _=>(K21Z.argS fun _=>(K21Z.arg0 rfl)))); (case a=>k_is); (case l=>k_is); (case c=>k_is); (case k=>k_is))
  (case d8=>refine' K21Z.df_mk KX G ?a ?l ?c ?k (fun _ _ _ _ _ _=>(K21Z.argS fun _=>(K21Z.argS fun _=>(K21Z.arg0 rfl)))); (case a=>k_is); (case l=>k_is); (case c=>k_is); (case k=>k_is))
  (case d9=>refine' K21Z.df_mk KX G ?a ?l ?c ?k (fun _ _ _ _ _ _=>(K21Z.argS fun _=>(K21Z.argS fun _=>(K21Z.arg0 rfl)))); (case a=>k_is); (case l=>k_is); (case c=>k_is); (case k=>k_is))
  (case d10=>refine' K21Z.df_mk KX G ?a ?l ?c ?k (fun _ _ _ _ _ _=>(K21Z.argS fun _=>(K21Z.argS fun _=>(K21Z.arg0 rfl)))); (case a=>k_is); (case l=>k_is); (case c=>k_is); (case k=>k_is))
  (case d11=>refine' K21Z.df_mk KX G ?a ?l ?c ?k (fun _ _ _ _ _ _=>(K21Z.argS fun _=>(K21Z.argS fun _=>(K21Z.arg0 rfl)))); (case a=>k_is); (case l=>k_is); (case c=>k_is); (case k=>k_is))
  (case d12=>refine' K21Z.df_mk KX G ?a ?l ?c ?k (fun _ _ _ _ _ _=>(K21Z.argS fun _=>(K21Z.arg0 rfl))); (case a=>k_is); (case l=>k_is); (case c=>k_is); (case k=>k_is))
