import PyProof.Rows.All
import Wide.All
import OpenK.AllK
import Wide.FinOn
import Lean
import PyProof.EqAt
import PyProof.EqKinds
import PyProof.TupleCall
import PyProof.NeKinds
import PyProof.Rows.SumAny
import PyProof.StrBlockL
import PyProof.StrBlockI
import PyProof.FitsReplace
import PyProof.Rows.SeqMore
import PyProof.Rows.TupAdd
import PyProof.Draws
import PyProof.ZipIter
import PyProof.Rows.SortStr
import PyProof.Rows.SortWalk
import PyProof.Rows.SortShellK
import PyProof.Rows.SortKeyStr
import PyProof.Rows.BitMore
import PyProof.ListNew
import PyProof.IsRules
import KE.KDictLaws
import OpenK.ZGo
import PySem.Challenge.RW_slicewise_k20_holds_and_keeps
set_option Elab.async false
set_option linter.all false
set_option maxRecDepth 100000
namespace L2
open PySem PySem.Spec PyProof.Rows
abbrev Key := Sum Int Str
def keyIs : Key → Value → Bool
  | .inl k, v => Value.isInt k v
  | .inr x, v => Value.isStrOf x v
def keyH (w : World) : Key → Int
  | .inl k => hashInt k
  | .inr x => hashStr w x
theorem keyIs_shape : ∀ {k : Key} {v : Value}, keyIs k v = true → (∃ i t, k = Sum.inl i ∧ v = Value.int i t) ∨ (∃ x t, k = Sum.inr x ∧ v = Value.str x t)
  | .inl i, v, h => by
    obtain ⟨t, e⟩ := Value.isInt_shape (k := i) (v := v) h
    exact .inl ⟨i, t, rfl, e⟩
  | .inr x, v, h => by
    obtain ⟨t, e⟩ := Value.isStrOf_shape (x := x) (v := v) h
    exact .inr ⟨x, t, rfl, e⟩
theorem keyIs_int (i : Int) (t : Tok) : keyIs (.inl i) (.int i t) = true := by simp [keyIs, Value.isInt]
theorem keyIs_str (x : Str) (t : Tok) : keyIs (.inr x) (.str x t) = true := by simp [keyIs, Value.isStrOf]
theorem key_ll (a b : Int) : decide ((Sum.inl a : Key) = Sum.inl b) = (a == b) := by
  by_cases e : a = b
  · subst e; simp
  · have h : ¬ (Sum.inl a : Key) = Sum.inl b := fun q => e (Sum.inl.inj q)
    rw [decide_eq_false h]
    exact (beq_eq_false_iff_ne.mpr e).symm
theorem key_rr (a b : Str) : decide ((Sum.inr a : Key) = Sum.inr b) = decide (a = b) := by
  by_cases e : a = b
  · subst e; simp
  · have h : ¬ (Sum.inr a : Key) = Sum.inr b := fun q => e (Sum.inr.inj q)
    rw [decide_eq_false h, decide_eq_false e]
theorem key_lr (a : Int) (b : Str) : decide ((Sum.inl a : Key) = Sum.inr b) = false := decide_eq_false (fun q => nomatch q)
theorem key_rl (a : Str) (b : Int) : decide ((Sum.inr a : Key) = Sum.inl b) = false := decide_eq_false (fun q => nomatch q)
def mixKind (prog : Program) (w : World) : PySem.KeyKind prog w Key where
  is := keyIs
  hash := keyH w
  inj := fun v a b ha hb => by
    rcases keyIs_shape ha with ⟨i, t, rfl, rfl⟩ | ⟨x, t, rfl, rfl⟩
    · rcases keyIs_shape hb with ⟨j, u, rfl, e⟩ | ⟨y, u, rfl, e⟩
      · injection e with e1 _; rw [e1]
      · exact nomatch e
    · rcases keyIs_shape hb with ⟨j, u, rfl, e⟩ | ⟨y, u, rfl, e⟩
      · exact nomatch e
      · injection e with e1 _; rw [e1]
  byValue := fun k v h => by
    rcases keyIs_shape h with ⟨i, t, rfl, rfl⟩ | ⟨x, t, rfl, rfl⟩ <;> rfl
  pyHash := fun hv h => by
    rcases keyIs_shape hv with ⟨i, t, rfl, rfl⟩ | ⟨x, t, rfl, rfl⟩
    · exact wpAny_pyHash_int h
    · exact wpAny_pyHash_str h
  eqBool := fun hu hv h => by
    rcases keyIs_shape hu with ⟨i, t, rfl, rfl⟩ | ⟨x, t, rfl, rfl⟩
    · rcases keyIs_shape hv with ⟨j, u, rfl, rfl⟩ | ⟨y, u, rfl, rfl⟩
      · rw [key_ll] at h; exact wpAny_eqBool_int h
      · rw [key_lr] at h; exact SeqAt.EqAt.int_str i t y u _ _ _ _ h
    · rcases keyIs_shape hv with ⟨j, u, rfl, rfl⟩ | ⟨y, u, rfl, rfl⟩
      · rw [key_rl] at h; exact SeqAt.EqAt.str_int x t j u _ _ _ _ h
      · rw [key_rr] at h; exact wpAny_eqBool_str h
  «strs» := fun k x t v h => by
    rcases keyIs_shape h with ⟨i, u, rfl, e⟩ | ⟨y, u, rfl, e⟩
    · exact nomatch e
    · injection e with e1 _
      subst e1
      cases v <;> rfl
theorem mixKind_int (prog : Program) (w : World) (i : Int) (t : Tok) : (mixKind prog w).is (.inl i) (.int i t) = true := keyIs_int i t
theorem mixKind_str (prog : Program) (w : World) (x : Str) (t : Tok) : (mixKind prog w).is (.inr x) (.str x t) = true := keyIs_str x t
end L2
namespace L2
open PySem PySem.Spec PyProof.Rows
inductive V where
  | non | bl (b : Bool) | int (i : Int) | str (x : Str) | byt (b : Array UInt8) | flt (b : UInt64) | ref (a : Addr) | ty (n : String)
  deriving DecidableEq
def RelV : V → Value → Prop
  | .non, u => u = Value.none
  | .bl b, u => u = Value.bool b
  | .int i, u => ∃ t, u = Value.int i t
  | .str x, u => ∃ t, u = Value.str x t
  | .byt b, u => ∃ t, u = Value.bytes b t
  | .flt b, u => ∃ t, u = Value.float b t
  | .ref a, u => u = Value.ref a
  | .ty n, u => u = Value.type n
abbrev Vals : List V → List Value → Prop := Paired RelV
theorem Vals.length {xs : List V} {us : List Value} (r : Vals xs us) : xs.length = us.length := Paired.length r
theorem Vals.get : ∀ {xs : List V} {us : List Value} {i : Nat} {x : V}, Vals xs us → xs[i]? = some x → ∃ u, us[i]? = some u ∧ RelV x u
  | _, _, _, _, .nil, e => by simp at e
  | _, _, 0, _, .cons r _, e => by simp at e; subst e; exact ⟨_, rfl, r⟩
  | _, _, i + 1, x, .cons _ t, e => by
    obtain ⟨u, h1, h2⟩ := Vals.get (i := i) (x := x) t (by simpa using e)
    exact ⟨u, by simpa using h1, h2⟩
theorem Vals.set {x : V} {u : Value} (r : RelV x u) : ∀ {xs : List V} {us : List Value} (i : Nat), Vals xs us → Vals (xs.set i x) (us.set i u)
  | _, _, _, .nil => .nil
  | _, _, 0, .cons _ t => .cons r t
  | _, _, i + 1, .cons q t => .cons q (Vals.set r i t)
theorem Vals.append : ∀ {xs ys : List V} {us ws : List Value}, Vals xs us → Vals ys ws → Vals (xs ++ ys) (us ++ ws)
  | _, _, _, _, .nil, s => s
  | _, _, _, _, .cons r t, s => .cons r (Vals.append t s)
theorem Vals.take : ∀ {xs : List V} {us : List Value} (n : Nat), Vals xs us → Vals (xs.take n) (us.take n)
  | _, _, 0, _ => .nil
  | _, _, _ + 1, .nil => .nil
  | _, _, n + 1, .cons r t => .cons r (Vals.take n t)
theorem Vals.drop : ∀ {xs : List V} {us : List Value} (n : Nat), Vals xs us → Vals (xs.drop n) (us.drop n)
  | _, _, 0, r => r
  | _, _, _ + 1, .nil => .nil
  | _, _, n + 1, .cons _ t => Vals.drop n t
def RelO : Option V → Option Value → Prop
  | some v, some u => RelV v u
  | none, none => True
  | _, _ => False
def KV {κ : Type} : List (κ × V) → List (κ × Value) → Prop := Paired fun (p : κ × V) (q : κ × Value) => p.1 = q.1 ∧ RelV p.2 q.2
def kV : Key → V
  | .inl i => .int i
  | .inr x => .str x
inductive HO where
  | lst (xs : List V)
  | tup (xs : List V)
  | dK (kvs : List (Key × V)) | dT (kvs : List (List Key × V))
  | set (S : Int → Bool) (n : Nat)
  | ins (C dx : Addr) (fs : List (Str × V))
  | own (x : Addr)
  | xd (fs : List (Str × V))
  | met (f x : Addr)
  | rng (lo hi : Int)
  | frz (o : Obj) (u : HO)
  | tbl (ps : Array Value)
  | ext (φ : Heap → Prop)
abbrev Hp := Addr → Option HO
def upd (H : Hp) (a : Addr) (o : HO) : Hp := fun b => if b = a then some o else H b
theorem upd_same {H : Hp} {a : Addr} {o : HO} : upd H a o a = some o := by unfold upd; rw [if_pos rfl]
theorem upd_ne {H : Hp} {a b : Addr} {o : HO} (h : b ≠ a) : upd H a o b = H b := by unfold upd; rw [if_neg h]
theorem ne_of {H : Hp} {a b : Addr} {o u : HO} (h : H a = some o) (h' : H b = some u) (d : o ≠ u) : a ≠ b := by
  intro e; subst e; rw [h] at h'; exact d (Option.some.inj h')
theorem ne_of_none {H : Hp} {a b : Addr} {o : HO} (h : H a = some o) (h' : H b = none) : a ≠ b := by
  intro e; subst e; rw [h] at h'; cases h'
section
variable (P : Program) (w : World)
def ObjOk (H : Hp) (h : Heap) (a : Addr) : HO → Prop
  | .lst xs => xs.length ≤ sizeLine ∧ ∃ (its : List Value) (n : Nat), Vals xs its ∧ h.get? a = some { cls := .type "list", data := .seq its.toArray n }
  | .tup xs => xs.length ≤ sizeLine ∧ ∃ its : List Value, Vals xs its ∧ IsTup h a its.toArray
  | .dK kvs => kvs.length ≤ sizeLine ∧ (a == sysModules) = false ∧ ∃ vs, KV kvs vs ∧ h.DictOf (mixKind P w) a vs
  | .dT kvs => kvs.length ≤ sizeLine ∧ (a == sysModules) = false ∧ ∃ xs : List (List Key × Addr × Value),
      Paired (fun (p : List Key × V) (q : List Key × Addr × Value) => p.1 = q.1 ∧ H q.2.1 = some (.tup (p.1.map kV)) ∧ RelV p.2 q.2.2) kvs xs ∧
      ∃ o es ep, h.get? a = some o ∧ o.ExactDict ∧ o.data = .dict es ep ∧ es.toList = xs.map (entryOfKey (tupleKind (mixKind P w))) ∧ (xs.map (·.1)).Nodup
  | .set S n => h.SetOf (intKind P w) a S n
  | .ins C dx fs => H dx = some (.own a) ∧ fs.length ≤ 1000 ∧ dx ≠ a ∧ h.get? a = some (PySem.W.instObj C dx) ∧
      ∃ mA, h.Ns1 dx mA ∧ (∀ f, RelO (fs.lookup f) (mA f)) ∧ PySem.Within mA (fs.map (·.1))
  | .own _ => ∃ o, h.get? a = some o
  | .xd fs => ∃ mA, h.Ns1 a mA ∧ ∀ f, RelO (fs.lookup f) (mA f)
  | .rng lo hi => ∃ t u v, h.get? a = some { cls := .type "range", data := .fields #[.int lo t, .int hi u, .int 1 v] }
  | .frz o u => h.get? a = some o ∧ ObjOk H h a u
  | .tbl ps => h.get? a = some { cls := .none, data := .fields ps }
  | .met f x => h.get? a = some (PySem.W.methodObj (.ref f) (.ref x))
  | .ext φ => φ h ∧ (∃ o, h.get? a = some o) ∧ ∀ h1 h2 : Heap, φ h1 → (∀ o, h1.get? a = some o → h2.get? a = some o) → φ h2
def HOk (H : Hp) (h : Heap) : Prop := ∀ a o, H a = some o → ObjOk P w H h a o
end
section
variable {P : Program} {w : World} {H H' : Hp} {h h' : Heap} {a : Addr} {o : HO}
theorem ObjOk.lt (x : ObjOk P w H h a o) : a < h.objs.size := by
  cases o with
  | lst xs => obtain ⟨_, _, _, _, e⟩ := x; exact Heap.lt_size e
  | tup xs => obtain ⟨_, _, _, p⟩ := x; exact p.lt
  | dK kvs => obtain ⟨_, _, _, _, o, _, _, e, _⟩ := x; exact Heap.lt_size e
  | dT kvs => obtain ⟨_, _, _, _, o, _, _, e, _⟩ := x; exact Heap.lt_size e
  | set S n => obtain ⟨o, _, _, _, e, _⟩ := x; exact Heap.lt_size e
  | ins C dx fs => obtain ⟨_, _, _, e, _⟩ := x; exact Heap.lt_size e
  | own y => obtain ⟨_, e⟩ := x; exact Heap.lt_size e
  | xd fs => obtain ⟨_, ⟨_, _, _, e, _⟩, _⟩ := x; exact Heap.lt_size e
  | rng lo hi => obtain ⟨_, _, _, e⟩ := x; exact Heap.lt_size e
  | frz ob u => obtain ⟨e, _⟩ := x; exact Heap.lt_size e
  | tbl ps => exact Heap.lt_size (show h.get? a = some _ from x)
  | met f y => exact Heap.lt_size (show h.get? a = some _ from x)
  | ext φ => obtain ⟨_, ⟨_, e⟩, _⟩ := x; exact Heap.lt_size e
theorem Paired.mapP {α β : Type} {F G : α → β → Prop} : ∀ {l₁ : List α} {l₂ : List β}, Paired F l₁ l₂ → (∀ a b, F a b → G a b) → Paired G l₁ l₂
  | _, _, .nil, _ => .nil
  | _, _, .cons r t, f => .cons (f _ _ r) (Paired.mapP t f)
theorem ObjOk.stay (x : ObjOk P w H h a o) (k : ∀ b u, (b = a ∨ H b = some (.own a)) → h.get? b = some u → h'.get? b = some u)
    (ho : ∀ b, H b = some (.own a) → H' b = some (.own a)) (ht : ∀ b xs, H b = some (.tup xs) → H' b = some (.tup xs)) : ObjOk P w H' h' a o := by
  induction o with
  | lst xs => obtain ⟨z, its, n, r, e⟩ := x; exact ⟨z, its, n, r, k _ _ (.inl rfl) e⟩
  | tup xs => obtain ⟨z, its, r, ob, e, c⟩ := x; exact ⟨z, its, r, ob, k _ _ (.inl rfl) e, c⟩
  | dK kvs => obtain ⟨z, y, vs, r, ob, es, ep, e, c⟩ := x; exact ⟨z, y, vs, r, ob, es, ep, k _ _ (.inl rfl) e, c⟩
  | dT kvs =>
    obtain ⟨z, y, xs, r, ob, es, ep, e, c⟩ := x
    exact ⟨z, y, xs, Paired.mapP r fun p q z => ⟨z.1, ht _ _ z.2.1, z.2.2⟩, ob, es, ep, k _ _ (.inl rfl) e, c⟩
  | set S n => obtain ⟨ob, es, ep, t, e, c⟩ := x; exact ⟨ob, es, ep, t, k _ _ (.inl rfl) e, c⟩
  | ins C dx fs =>
    obtain ⟨d, z, ne, e, mA, ⟨od, es, ep, e2, c⟩, r⟩ := x
    exact ⟨ho _ d, z, ne, k _ _ (.inl rfl) e, mA, ⟨od, es, ep, k _ _ (.inr d) e2, c⟩, r⟩
  | own y => obtain ⟨ob, e⟩ := x; exact ⟨ob, k _ _ (.inl rfl) e⟩
  | xd fs => obtain ⟨mA, ⟨od, es, ep, e, c⟩, r⟩ := x; exact ⟨mA, ⟨od, es, ep, k _ _ (.inl rfl) e, c⟩, r⟩
  | rng lo hi => obtain ⟨t, u, v, e⟩ := x; exact ⟨t, u, v, k _ _ (.inl rfl) e⟩
  | frz ob u ih => obtain ⟨e, q⟩ := x; exact ⟨k _ _ (.inl rfl) e, ih q⟩
  | tbl ps =>
    have e : h.get? a = some { cls := .none, data := .fields ps } := x
    show h'.get? a = some { cls := .none, data := .fields ps }
    exact k a _ (.inl rfl) e
  | met f y =>
    have e : h.get? a = some (PySem.W.methodObj (.ref f) (.ref y)) := x
    show h'.get? a = some (PySem.W.methodObj (.ref f) (.ref y))
    exact k a _ (.inl rfl) e
  | ext φ => obtain ⟨p, ⟨o, e⟩, st⟩ := x; exact ⟨st _ _ p fun o q => k _ _ (.inl rfl) q, ⟨o, k _ _ (.inl rfl) e⟩, st⟩
theorem HOk.lt (x : HOk P w H h) (e : H a = some o) : a < h.objs.size := (x a o e).lt
theorem HOk.fresh (x : HOk P w H h) (e : h.objs.size ≤ a) : H a = none := by
  cases q : H a with
  | none => rfl
  | some u => exact absurd (Nat.lt_of_lt_of_le (x.lt q) e) (Nat.lt_irrefl _)
theorem HOk.kept (x : HOk P w H h) (k : ∀ b u, h.get? b = some u → h'.get? b = some u) : HOk P w H h' := fun a o e =>
  (x a o e).stay (fun b u _ q => k b u q) (fun _ q => q) fun _ _ q => q
theorem HOk.laid (x : HOk P w H h) (k : ∀ b u, h.get? b = some u → h'.get? b = some u) (hp : h.objs.size ≤ a) (new : ObjOk P w (upd H a o) h' a o) : HOk P w (upd H a o) h' := fun b u e => by
  have hn := x.fresh hp
  by_cases hb : b = a
  · subst hb; rw [upd_same] at e; cases e; exact new
  · rw [upd_ne hb] at e
    exact (x b u e).stay (fun c v _ q => k c v q) (fun c q => by rw [upd_ne (ne_of_none q hn)]; exact q) fun c xs q => by rw [upd_ne (ne_of_none q hn)]; exact q
end
def Rd (H : Hp) (a : Addr) (u : HO) : Prop := H a = some u ∨ ∃ o, H a = some (.frz o u)
theorem Rd.of {H : Hp} {a : Addr} {u : HO} (h : H a = some u) : Rd H a u := .inl h
theorem Rd.ok {P : Program} {w : World} {H : Hp} {h : Heap} {a : Addr} {u : HO} (r : Rd H a u) (x : HOk P w H h) : ObjOk P w H h a u := by
  rcases r with r | ⟨o, r⟩
  · exact x a u r
  · obtain ⟨_, q⟩ := x a _ r
    exact q
def Mut : Option HO → Prop
  | some (.lst _) => True
  | some (.dK _) => True
  | some (.dT _) => True
  | some (.set _ _) => True
  | some (.ins _ _ _) => True
  | some (.ext _) => True
  | _ => False
section
variable {P : Program} {w : World} {H : Hp} {h h' : Heap} {x e : Addr} {o' : HO}
theorem HOk.write (ok : HOk P w H h) (mu : Mut (H x)) (he : e = x ∨ H e = some (.own x)) (k : ∀ b u, b ≠ e → h.get? b = some u → h'.get? b = some u) (heo : ∃ u, h'.get? e = some u)
    (new : ObjOk P w (upd H x o') h' x o') : HOk P w (upd H x o') h' := fun b u q => by
  have nown : ∀ c y, H c = some (.own y) → c ≠ x := fun c y r z => by subst z; rw [r] at mu; exact mu
  have ntup : ∀ c xs, H c = some (.tup xs) → c ≠ x := fun c xs r z => by subst z; rw [r] at mu; exact mu
  by_cases hb : b = x
  · subst hb; rw [upd_same] at q; cases q; exact new
  · rw [upd_ne hb] at q
    by_cases hbe : b = e
    · have q' : H b = some (.own x) := by
        rcases he with z | z
        · exact absurd (hbe.trans z) hb
        · rw [hbe]; exact z
      rw [q] at q'; cases q'
      obtain ⟨v, hv⟩ := heo
      exact ⟨v, by rw [hbe]; exact hv⟩
    · refine (ok b u q).stay (fun c v hc r => k c v ?_ r) (fun c r => by rw [upd_ne (nown c b r)]; exact r) fun c xs r => by rw [upd_ne (ntup c xs r)]; exact r
      rcases hc with rfl | hc
      · exact hbe
      · rintro rfl
        rcases he with z | z
        · exact nown c b hc z
        · rw [hc] at z; cases z; exact hb rfl
end
structure Un (fs ex : List Addr) (H H' : Hp) (h h' : Heap) : Prop where
  keep : ∀ b o, h.get? b = some o → H b = none → b ∉ fs → b ∉ ex → h'.get? b = some o
  slot : ∀ b o, h.get? b = some o → H b = none → b ∈ fs → b ∉ ex → ∃ sl, h'.get? b = some { o with slots := sl }
  free : ∀ b o, h.get? b = some o → H b = none → b ∉ ex → H' b = none
  there : ∀ b o, h.get? b = some o → b ∉ ex → ∃ o', h'.get? b = some o'
  tups : ∀ b xs, H b = some (.tup xs) → H' b = some (.tup xs)
  frzs : ∀ b o u, H b = some (.frz o u) → H' b = some (.frz o u)
  tbls : ∀ b ps, H b = some (.tbl ps) → ∃ more, H' b = some (.tbl (ps ++ more))
section
variable {fs fs' ex ex' : List Addr} {H H1 H2 : Hp} {h h1 h2 h' : Heap} {a x e : Addr} {o : HO}
theorem Un.any (u : Un fs ex H H1 h h1) {b : Addr} {ob : Obj} (q : h.get? b = some ob) (n : H b = none) (hx : b ∉ ex) : ∃ sl, h1.get? b = some { ob with slots := sl } := by
  by_cases hb : b ∈ fs
  · exact u.slot b ob q n hb hx
  · exact ⟨ob.slots, u.keep b ob q n hb hx⟩
theorem Un.trans (a : Un fs ex H H1 h h1) (b : Un fs ex H1 H2 h1 h2) : Un fs ex H H2 h h2 where
  keep := fun c ob q n hc hx => b.keep c ob (a.keep c ob q n hc hx) (a.free c ob q n hx) hc hx
  slot := fun c ob q n hc hx => by
    obtain ⟨sl, e1⟩ := a.slot c ob q n hc hx
    obtain ⟨sl', e2⟩ := b.slot c _ e1 (a.free c ob q n hx) hc hx
    exact ⟨sl', e2⟩
  free := fun c ob q n hx => by
    obtain ⟨o', e1⟩ := a.there c ob q hx
    exact b.free c o' e1 (a.free c ob q n hx) hx
  there := fun c ob q hx => by
    obtain ⟨o', e1⟩ := a.there c ob q hx
    exact b.there c o' e1 hx
  tups := fun c xs q => b.tups c xs (a.tups c xs q)
  frzs := fun c ob xs q => b.frzs c ob xs (a.frzs c ob xs q)
  tbls := fun c ps q => by
    obtain ⟨m1, e1⟩ := a.tbls c ps q
    obtain ⟨m2, e2⟩ := b.tbls c _ e1
    exact ⟨m1 ++ m2, by rw [e2, Array.append_assoc]⟩
theorem Un.kept (k : ∀ b u, h.get? b = some u → h'.get? b = some u) : Un fs ex H H h h' :=
  ⟨fun b ob q _ _ _ => k b ob q, fun b ob q _ _ _ => ⟨ob.slots, k b ob q⟩, fun _ _ _ n _ => n, fun b ob q _ => ⟨ob, k b ob q⟩, fun _ _ q => q, fun _ _ _ q => q, fun _ ps q => ⟨#[], by rw [q]; simp⟩⟩
theorem Un.refl : Un fs ex H H h h := Un.kept fun _ _ q => q
theorem Un.laid (k : ∀ b u, h.get? b = some u → h'.get? b = some u) (hp : h.objs.size ≤ a) (hn : H a = none) : Un fs ex H (upd H a o) h h' where
  keep := fun b u q _ _ _ => k b u q
  slot := fun b u q _ _ _ => ⟨u.slots, k b u q⟩
  free := fun b u q n _ => by rw [upd_ne (Nat.ne_of_lt (Nat.lt_of_lt_of_le (Heap.lt_size q) hp))]; exact n
  there := fun b u q _ => ⟨u, k b u q⟩
  tups := fun b xs q => by rw [upd_ne (ne_of_none q hn)]; exact q
  frzs := fun b u xs q => by rw [upd_ne (ne_of_none q hn)]; exact q
  tbls := fun b ps q => ⟨#[], by rw [upd_ne (ne_of_none q hn), q]; simp⟩
theorem Un.write (mu : Mut (H x)) (he : e = x ∨ H e = some (.own x)) (k : ∀ b u, b ≠ e → h.get? b = some u → h'.get? b = some u) (heo : ∃ u, h'.get? e = some u) : Un fs ex H (upd H x o) h h' := by
  have hx : ∀ b, H b = none → b ≠ x := fun b n z => by subst z; rw [n] at mu; exact mu
  have hb : ∀ b, H b = none → b ≠ e := fun b n z => by
    subst z
    rcases he with r | r
    · exact hx b n r
    · rw [n] at r; cases r
  have hm : ∀ b u, H b = some u → ¬ Mut (some u) → b ≠ x := fun b u q nm z => by subst z; rw [q] at mu; exact nm mu
  refine ⟨fun b u q n _ _ => k b u (hb b n) q, fun b u q n _ _ => ⟨u.slots, k b u (hb b n) q⟩, fun b u q n _ => by rw [upd_ne (hx b n)]; exact n, fun b u q _ => ?_,
    fun b xs q => by rw [upd_ne (hm b _ q fun z => z)]; exact q, fun b u xs q => by rw [upd_ne (hm b _ q fun z => z)]; exact q, fun b ps q => ⟨#[], by rw [upd_ne (hm b _ q fun z => z), q]; simp⟩⟩
  by_cases hbe : b = e
  · subst hbe; exact heo
  · exact ⟨u, k b u hbe q⟩
theorem Un.mono (u : Un fs ex H H1 h h1) (hs : ∀ b ∈ fs, b ∈ fs') (hx : ∀ b ∈ ex, b ∈ ex') : Un fs' ex' H H1 h h1 :=
  ⟨fun b ob q n hb he => u.keep b ob q n (fun z => hb (hs b z)) fun z => he (hx b z), fun _ _ q n _ he => u.any q n fun z => he (hx _ z), fun b ob q n he => u.free b ob q n fun z => he (hx b z), fun b ob q he => u.there b ob q fun z => he (hx b z), u.tups, u.frzs, u.tbls⟩
end
def trk (h : Heap) (H : Hp) : List Addr := (List.range h.objs.size).filter fun a => (H a).isSome
def hidT (h : Heap) (H : Hp) : Heap := PySem.W.hideAll h (trk h H)
theorem hidT_size (h : Heap) (H : Hp) : (hidT h H).objs.size = h.objs.size := PySem.W.hideAll_size _ _
theorem hidT_get {h : Heap} {H : Hp} {b : Addr} {o : Obj} (e : h.get? b = some o) (n : H b = none) : (hidT h H).get? b = some o :=
  PySem.W.hideAll_get _ e fun hm => by
    have q : (H b).isSome = true := (List.mem_filter.mp hm).2
    rw [n] at q; simp at q
theorem of_hidT {h : Heap} {H : Hp} {b : Addr} {o : Obj} (e : (hidT h H).get? b = some o) : h.get? b = some o ∧ H b = none := by
  have e' : h.get? b = some o := PySem.W.of_hideAll (trk h H) e
  refine ⟨e', ?_⟩
  cases q : H b with
  | none => rfl
  | some x =>
    have hm : b ∈ trk h H := List.mem_filter.mpr ⟨List.mem_range.mpr (Heap.lt_size e'), by simp [q]⟩
    have z : (hidT h H).get? b = none := PySem.W.hideAll_none (trk h H) hm
    rw [z] at e; cases e
def allNews (g h : Heap) (L : Addr) : List (Addr × Obj) := (List.range h.objs.size).filterMap fun a => if a = L ∨ (g.get? a).isSome = true then none else (h.get? a).map fun o => (a, o)
def rest (g h : Heap) (L d : Addr) : List (Addr × Obj) := (allNews g h L).filter fun p => decide (p.1 ≠ d)
end L2
namespace L2
open PySem PySem.Spec PyProof.Rows
structure Mod (K : PySem.W.Frag) (mg : Str → Option Value) (base : Heap) : Prop where
  kin : K.In base
  glob : base.Ns mainGlobals mg
  blt : ∃ mb, base.Ns builtinsNs mb ∧ ∀ x : Str, x ≠ "__name__" → mb x = bootBuiltins x
  nolimit : base.NoLimit
structure Cx where
  prog : Program
  w : World
  K : PySem.W.Frag
  mg : Str → Option Value
  base : Heap
  A : Around
  N : List Str
  s₀ : Shared
  H₀ : Hp
  env : Env
  outer : List Env
  stack : List Env
  ex : List Addr
  fn : Str → Bool
  calm : Bool
  pn : List (Addr × Obj)
  xe : Value → Shared → Prop
def frs (l : List Env) : List Addr := l.filterMap (·.frame)
abbrev Cx.fs (X : Cx) : List Addr := frs X.outer
def Vis (sc : Scope) (x : Str) : Prop := sc.names.lookup x = some .local ∨ sc.names.lookup x = some .cell ∨ sc.names.lookup x = some .free
def Loc (sc : Scope) (x : Str) : Prop := sc.names.lookup x = some .local ∨ sc.names.lookup x = some .cell
def Look (env : Env) (h : Heap) (m : Str → Option Value) (x : Str) (u : Value) : Prop :=
  (env.kindOf x = some .local ∧ m x = some u) ∨ ((env.kindOf x = some .cell ∨ env.kindOf x = some .free) ∧ ∃ c, env.cells.lookup x = some c ∧ h.IsCell c (some u))
structure Cx.Ok (X : Cx) : Prop where
  mod : Mod X.K X.mg X.base
  kind : X.env.scope.kind = .function
  glob : X.env.globals = mainGlobals
  blt : X.env.builtins = builtinsNs
  above : X.s₀.heap.objs.size ≤ X.env.locals
  inj : ∀ x y c, X.env.cells.lookup x = some c → X.env.cells.lookup y = some c → x = y
  has : ∀ x, (X.env.kindOf x = some .cell ∨ X.env.kindOf x = some .free) → ∃ c, X.env.cells.lookup x = some c
  cab : ∀ x c, X.fn x = true → X.env.cells.lookup x = some c → X.s₀.heap.objs.size ≤ c
  hd : X.calm = true → X.A.handled = none
  frames : X.A.frames = some X.stack
  stk : X.stack = X.outer ∨ (X.stack = X.env :: X.outer ∧ X.env.frame = some X.env.locals)
  exf : ∀ b ∈ X.ex, b ≠ X.env.locals ∧ ∀ x c, X.env.cells.lookup x = some c → c ≠ b
  bs : ∀ b o, X.base.get? b = some o → X.s₀.heap.get? b = some o ∧ X.H₀ b = none
  bsz : X.base.objs.size ≤ X.s₀.heap.objs.size
  noex : ∀ b o, X.base.get? b = some o → b ∉ X.ex
  exfs : ∀ b ∈ X.ex, b ∉ X.fs
  funs : X.s₀.heap.FunFrames X.base X.outer
  frf : ∀ b ∈ X.fs, X.H₀ b = none
structure Inv (X : Cx) (pins : List (Addr × Obj)) (σ : List (Option V)) (H : Hp) (s : Shared) : Prop where
  ok : X.Ok
  os : s.os = X.s₀.os
  bare : AllBare s.gens
  base : Un X.fs X.ex X.H₀ H X.s₀.heap s.heap
  loc : ∃ m, s.heap.Ns X.env.locals m ∧ ∀ (i : Nat) (x : Str) (v : V), X.N[i]? = some x → σ[i]? = some (some v) → Vis X.env.scope x → ∃ u, RelV v u ∧ Look X.env s.heap m x u
  cell : ∀ x c, X.env.cells.lookup x = some c → ∃ v, s.heap.IsCell c v
  free : H X.env.locals = none
  freeC : ∀ x c, X.env.cells.lookup x = some c → H c = none
  pin : ∀ p ∈ X.pn ++ pins, s.heap.get? p.1 = some p.2 ∧ H p.1 = none ∧ p.1 ≠ X.env.locals ∧ p.1 ∉ X.fs ∧ ∀ v, p.2.data ≠ .cell v
  hok : HOk X.prog X.w H s.heap
  len : σ.length = X.N.length
section
variable {X : Cx} {pins : List (Addr × Obj)} {σ : List (Option V)} {H H' : Hp} {s : Shared} {h' : Heap}
theorem Cx.Ok.nofr (ok : X.Ok) {b : Addr} {o : Obj} (e : X.base.get? b = some o) : b ∉ X.fs := fun hb => by
  have := (ok.funs.mem hb).1
  rw [e] at this; cases this
theorem Inv.bs (I : Inv X pins σ H s) : ∀ b o, X.base.get? b = some o → s.heap.get? b = some o ∧ H b = none := fun b o e =>
  ⟨I.base.keep b o (I.ok.bs b o e).1 (I.ok.bs b o e).2 (I.ok.nofr e) (I.ok.noex b o e), I.base.free b o (I.ok.bs b o e).1 (I.ok.bs b o e).2 (I.ok.noex b o e)⟩
theorem Inv.bk (I : Inv X pins σ H s) : ∀ b o, X.base.get? b = some o → s.heap.get? b = some o := fun b o e => (I.bs b o e).1
theorem Inv.mod (I : Inv X pins σ H s) : Mod X.K X.mg X.base := I.ok.mod
theorem Inv.kIn (I : Inv X pins σ H s) : X.K.In s.heap := I.ok.mod.kin.keeps I.bk
theorem Inv.nolimit (I : Inv X pins σ H s) : s.heap.NoLimit := I.ok.mod.nolimit.keeps I.bk
theorem Inv.fr (I : Inv X pins σ H s) : ∃ m, Fr X.base X.env.locals s.heap m :=
  let ⟨m, hn, _⟩ := I.loc
  ⟨m, hn, I.bk, Nat.le_trans I.ok.bsz I.ok.above⟩
theorem Inv.lt (I : Inv X pins σ H s) : X.env.locals < s.heap.objs.size := let ⟨_, hn, _⟩ := I.loc; hn.lt
theorem Inv.sz (I : Inv X pins σ H s) : X.s₀.heap.objs.size ≤ s.heap.objs.size := Nat.le_trans I.ok.above (Nat.le_of_lt I.lt)
theorem Inv.nofs (I : Inv X pins σ H s) {a : Addr} (h : s.heap.objs.size ≤ a) : a ∉ X.fs := fun hb => by
  obtain ⟨_, o, ho, _⟩ := I.ok.funs.mem hb
  exact absurd (Nat.lt_of_lt_of_le (Heap.lt_size ho) (Nat.le_trans I.sz h)) (Nat.lt_irrefl _)
theorem Inv.cne (I : Inv X pins σ H s) : ∀ x c, X.env.cells.lookup x = some c → c ≠ X.env.locals := fun x c e z => by
  obtain ⟨v, o, ho, hd⟩ := I.cell x c e
  obtain ⟨m, ⟨o', es, ep, ho', hd', _⟩, _⟩ := I.loc
  rw [z, ho'] at ho; cases ho; rw [hd'] at hd; cases hd
theorem Inv.funs (I : Inv X pins σ H s) : s.heap.FunFrames X.base X.outer := by
  have all : ∀ (l : List Env), (∀ b ∈ frs l, b ∈ X.fs) → X.s₀.heap.FunFrames X.base l → s.heap.FunFrames X.base l := by
    intro l
    induction l with
    | nil => intro _ _; trivial
    | cons env r ih =>
      intro hs hl
      obtain ⟨hk, ⟨L, o, hf, hn, ho, hd⟩, hr⟩ := hl
      have hL : L ∈ X.fs := hs L (by unfold frs; rw [List.filterMap_cons, hf]; exact List.mem_cons_self)
      obtain ⟨sl, e⟩ := I.base.slot L o ho (I.ok.frf L hL) hL fun z => I.ok.exfs L z hL
      exact ⟨hk, ⟨L, _, hf, hn, e, hd⟩, ih (fun b hb => hs b (by unfold frs; rw [List.filterMap_cons, hf]; exact List.mem_cons_of_mem _ hb)) hr⟩
  exact all X.outer (fun _ hb => hb) I.ok.funs
theorem Inv.stack (I : Inv X pins σ H s) : s.heap.FunFrames X.base X.stack := by
  rcases I.ok.stk with e | ⟨e, hf⟩
  · rw [e]; exact I.funs
  · rw [e]
    obtain ⟨m, hn, _⟩ := I.loc
    refine .cons (by rw [I.ok.kind]; decide) hf hn ?_ I.funs
    exact Heap.get?_none_of_le (Nat.le_trans I.ok.bsz I.ok.above)
theorem Inv.stkSub (I : Inv X pins σ H s) : ∀ b ∈ frs X.stack, b ∈ X.env.locals :: X.fs := fun b hb => by
  rcases I.ok.stk with e | ⟨e, hf⟩
  · rw [e] at hb; exact List.mem_cons_of_mem _ hb
  · rw [e] at hb
    unfold frs at hb
    rw [List.filterMap_cons, hf] at hb
    exact hb
theorem Inv.stkFree (I : Inv X pins σ H s) : ∀ b ∈ frs X.stack, H b = none := fun b hb => by
  rcases List.mem_cons.mp (I.stkSub b hb) with e | hb
  · rw [e]; exact I.free
  · obtain ⟨_, o, ho, _⟩ := I.ok.funs.mem hb
    exact I.base.free b o ho (I.ok.frf b hb) fun z => I.ok.exfs b z hb
theorem Inv.step {g' : Array GenState} {t' : Nat} {d' : Drawn} {ch : List Addr} (I : Inv X pins σ H s)
    (hch : ∀ b ∈ ch, (b ∈ X.ex ∨ X.s₀.heap.objs.size ≤ b) ∧ b ≠ X.env.locals ∧ (∀ x c, X.env.cells.lookup x = some c → c ≠ b) ∧ ∀ p ∈ X.pn ++ pins, p.1 ≠ b)
    (keep : ∀ b o, b ≠ X.env.locals → b ∉ X.fs → b ∉ ch → s.heap.get? b = some o → H b = none → h'.get? b = some o)
    (slot : ∀ b o, b ≠ X.env.locals → b ∈ X.fs → b ∉ ch → s.heap.get? b = some o → H b = none → ∃ sl, h'.get? b = some { o with slots := sl }) (free : ∀ b o, b ∉ ch → s.heap.get? b = some o → H b = none → H' b = none)
    (there : ∀ b o, b ∉ ch → s.heap.get? b = some o → ∃ o', h'.get? b = some o')
    (tups : ∀ b xs, H b = some (.tup xs) → H' b = some (.tup xs)) (frzs : ∀ b o u, H b = some (.frz o u) → H' b = some (.frz o u)) (tbls : ∀ b ps, H b = some (.tbl ps) → ∃ more, H' b = some (.tbl (ps ++ more)))
    (ns : ∀ m, s.heap.Ns X.env.locals m → h'.Ns X.env.locals m) (hok : HOk X.prog X.w H' h') (hg : AllBare g') :
    Inv X pins σ H' { s with heap := h', gens := g', drawn := d', toks := t' } := by
  have neL : ∀ b o, X.s₀.heap.get? b = some o → b ≠ X.env.locals := fun b o e => Nat.ne_of_lt (Nat.lt_of_lt_of_le (Heap.lt_size e) I.ok.above)
  have neC : ∀ b o, X.s₀.heap.get? b = some o → b ∉ X.ex → b ∉ ch := fun b o e hx hb => by
    rcases (hch b hb).1 with z | z
    · exact hx z
    · exact absurd (Nat.lt_of_lt_of_le (Heap.lt_size e) z) (Nat.lt_irrefl _)
  have cellK : ∀ x c, X.env.cells.lookup x = some c → ∀ v, s.heap.IsCell c v → h'.IsCell c v := fun x c e v ⟨o, ho, hd⟩ => by
    have nch : c ∉ ch := fun z => (hch c z).2.2.1 x c e rfl
    by_cases hc : c ∈ X.fs
    · obtain ⟨sl, q⟩ := slot c o (I.cne x c e) hc nch ho (I.freeC x c e)
      exact ⟨_, q, hd⟩
    · exact ⟨o, keep c o (I.cne x c e) hc nch ho (I.freeC x c e), hd⟩
  refine ⟨I.ok, I.os, hg, ⟨fun b o e n hb hx => ?_, fun b o e n hb hx => ?_, fun b o e n hx => ?_, fun b o e hx => ?_, fun b xs e => tups b xs (I.base.tups b xs e), fun b o xs e => frzs b o xs (I.base.frzs b o xs e), fun b ps e => ?_⟩, ?_, fun x c e => ?_, ?_, fun x c e => ?_, fun p hp => ?_, hok, I.len⟩
  · exact keep b o (neL b o e) hb (neC b o e hx) (I.base.keep b o e n hb hx) (I.base.free b o e n hx)
  · obtain ⟨sl, e1⟩ := I.base.slot b o e n hb hx
    obtain ⟨sl', e2⟩ := slot b _ (neL b o e) hb (neC b o e hx) e1 (I.base.free b o e n hx)
    exact ⟨sl', e2⟩
  · obtain ⟨o', e1⟩ := I.base.there b o e hx
    exact free b o' (neC b o e hx) e1 (I.base.free b o e n hx)
  · obtain ⟨o', e1⟩ := I.base.there b o e hx
    exact there b o' (neC b o e hx) e1
  · obtain ⟨m1, e1⟩ := I.base.tbls b ps e
    obtain ⟨m2, e2⟩ := tbls b _ e1
    exact ⟨m1 ++ m2, by rw [e2, Array.append_assoc]⟩
  · obtain ⟨m, hn, hl⟩ := I.loc
    refine ⟨m, ns m hn, fun i x v e1 e2 e3 => ?_⟩
    obtain ⟨u, r, l⟩ := hl i x v e1 e2 e3
    refine ⟨u, r, ?_⟩
    rcases l with l | ⟨k, c, e, z⟩
    · exact .inl l
    · exact .inr ⟨k, c, e, cellK x c e _ z⟩
  · obtain ⟨v, z⟩ := I.cell x c e
    exact ⟨v, cellK x c e v z⟩
  · obtain ⟨m, ⟨o, _, _, ho, _⟩, _⟩ := I.loc
    exact free _ o (fun z => (hch _ z).2.1 rfl) ho I.free
  · obtain ⟨v, o, ho, hd⟩ := I.cell x c e
    exact free c o (fun z => (hch c z).2.2.1 x c e rfl) ho (I.freeC x c e)
  · obtain ⟨e, n, ne, nf, d⟩ := I.pin p hp
    have nch : p.1 ∉ ch := fun z => (hch p.1 z).2.2.2 p hp rfl
    exact ⟨keep p.1 p.2 ne nf nch e n, free p.1 p.2 nch e n, ne, nf, d⟩
theorem Inv.un {t' : Nat} (I : Inv X pins σ H s) (u : Un X.fs [] H H' s.heap h') (hok : HOk X.prog X.w H' h') : Inv X pins σ H' { s with heap := h', toks := t' } := by
  obtain ⟨m, ⟨o, es, ep, ho, r⟩, _⟩ := id I.loc
  obtain ⟨sl, hL⟩ := u.any ho I.free (by simp)
  exact I.step (g' := s.gens) (d' := s.drawn) (ch := []) (fun _ z => nomatch z) (fun b o _ hb _ e n => u.keep b o e n hb (by simp)) (fun b o _ hb _ e n => u.slot b o e n hb (by simp)) (fun b o _ e n => u.free b o e n (by simp)) (fun b o _ e => u.there b o e (by simp)) u.tups u.frzs u.tbls (fun m' hm => by
    obtain ⟨o', es', ep', ho', r'⟩ := hm
    rw [ho] at ho'; cases ho'
    exact ⟨_, es', ep', hL, r'⟩) hok I.bare
theorem Inv.call {g' : Array GenState} {t' : Nat} {d' : Drawn} {ch : List Addr} (I : Inv X pins σ H s) (u : Un (frs X.stack) ch H H' s.heap h') (hok : HOk X.prog X.w H' h') (hg : AllBare g')
    (hch : ∀ b ∈ ch, (b ∈ X.ex ∨ X.s₀.heap.objs.size ≤ b) ∧ b ≠ X.env.locals ∧ (∀ x c, X.env.cells.lookup x = some c → c ≠ b) ∧ ∀ p ∈ X.pn ++ pins, p.1 ≠ b) :
    Inv X pins σ H' { s with heap := h', gens := g', drawn := d', toks := t' } := by
  obtain ⟨m, ⟨o, es, ep, ho, r⟩, _⟩ := id I.loc
  obtain ⟨sl, hL⟩ := u.any ho I.free fun z => (hch _ z).2.1 rfl
  exact I.step (ch := ch) hch (fun b o hL hb hc e n => u.keep b o e n (fun z => (List.mem_cons.mp (I.stkSub b z)).elim hL hb) hc) (fun b o _ _ hc e n => u.any e n hc) (fun b o hc e n => u.free b o e n hc) (fun b o hc e => u.there b o e hc) u.tups u.frzs u.tbls (fun m' hm => by
    obtain ⟨o', es', ep', ho', r'⟩ := hm
    rw [ho] at ho'; cases ho'
    exact ⟨_, es', ep', hL, r'⟩) hok hg
theorem Inv.turned {t' : Nat} {it : Addr} (I : Inv X pins σ H s) (k : ∀ b o, b ≠ it → s.heap.get? b = some o → h'.get? b = some o) (hn : H it = none) (hL : it ≠ X.env.locals)
    (h1 : it ∈ X.ex ∨ X.s₀.heap.objs.size ≤ it) (h2 : ∀ x c, X.env.cells.lookup x = some c → c ≠ it) (h3 : ∀ p ∈ X.pn ++ pins, p.1 ≠ it) : Inv X pins σ H { s with heap := h', toks := t' } := by
  have nit : ∀ b u, H b = some u → b ≠ it := fun b u e z => by rw [z, hn] at e; cases e
  refine I.step (g' := s.gens) (d' := s.drawn) (ch := [it]) (fun b hb => ?_) (fun b o _ _ hc e _ => k b o (fun z => hc (by simp [z])) e) (fun b o _ _ hc e _ => ⟨o.slots, k b o (fun z => hc (by simp [z])) e⟩) (fun _ _ _ _ n => n)
    (fun b o hc e => ⟨o, k b o (fun z => hc (by simp [z])) e⟩) (fun _ _ e => e) (fun _ _ _ e => e) (fun b ps e => ⟨#[], by rw [e]; simp⟩) (fun m hm => ?_) (fun b u e => ?_) I.bare
  · have e : b = it := by simpa using hb
    subst e
    exact ⟨h1, hL, h2, h3⟩
  · obtain ⟨o, es, ep, ho, r⟩ := hm
    exact ⟨o, es, ep, k _ o (Ne.symm hL) ho, r⟩
  · refine (I.hok b u e).stay (fun c v hc q => k c v ?_ q) (fun _ q => q) fun _ _ q => q
    rcases hc with z | z
    · rw [z]; exact nit b u e
    · exact nit c _ z
theorem Inv.tok (I : Inv X pins σ H s) (t : Nat) : Inv X pins σ H { s with toks := t } := I.un (h' := s.heap) (t' := t) Un.refl I.hok
theorem Inv.kept {t' : Nat} (I : Inv X pins σ H s) (k : ∀ b u, s.heap.get? b = some u → h'.get? b = some u) : Inv X pins σ H { s with heap := h', toks := t' } := I.un (Un.kept k) (I.hok.kept k)
theorem Inv.laid {a : Addr} {o : HO} {t' : Nat} (I : Inv X pins σ H s) (k : ∀ b u, s.heap.get? b = some u → h'.get? b = some u) (hp : s.heap.objs.size ≤ a) (new : ObjOk X.prog X.w (upd H a o) h' a o) :
    Inv X pins σ (upd H a o) { s with heap := h', toks := t' } := I.un (Un.laid k hp (I.hok.fresh hp)) (I.hok.laid k hp new)
theorem Inv.write {x e : Addr} {o : HO} {t' : Nat} (I : Inv X pins σ H s) (mu : Mut (H x)) (he : e = x ∨ H e = some (.own x)) (k : ∀ b u, b ≠ e → s.heap.get? b = some u → h'.get? b = some u) (heo : ∃ u, h'.get? e = some u)
    (new : ObjOk X.prog X.w (upd H x o) h' x o) : Inv X pins σ (upd H x o) { s with heap := h', toks := t' } := I.un (Un.write mu he k heo) (I.hok.write mu he k heo new)
theorem Inv.weak {σ' : List (Option V)} (I : Inv X pins σ H s) (hl : σ'.length = σ.length) (w : ∀ (i : Nat) v, σ'[i]? = some (some v) → σ[i]? = some (some v)) : Inv X pins σ' H s :=
  ⟨I.ok, I.os, I.bare, I.base, let ⟨m, hn, hl'⟩ := I.loc; ⟨m, hn, fun i x v e1 e2 e3 => hl' i x v e1 (w i v e2) e3⟩, I.cell, I.free, I.freeC, I.pin, I.hok, hl.trans I.len⟩
theorem Inv.pins_of {pins' : List (Addr × Obj)} (I : Inv X pins σ H s) (h : ∀ p ∈ pins', s.heap.get? p.1 = some p.2 ∧ H p.1 = none ∧ p.1 ≠ X.env.locals ∧ p.1 ∉ X.fs ∧ ∀ v, p.2.data ≠ .cell v) : Inv X pins' σ H s :=
  ⟨I.ok, I.os, I.bare, I.base, I.loc, I.cell, I.free, I.freeC, fun p hp => (List.mem_append.mp hp).elim (fun z => I.pin p (List.mem_append_left _ z)) (h p), I.hok, I.len⟩
theorem nodup_ix {N : List Str} (hN : N.Nodup) {i j : Nat} {x : Str} (a : N[i]? = some x) (b : N[j]? = some x) : i = j := by
  obtain ⟨h1, e1⟩ := List.getElem?_eq_some_iff.mp a
  obtain ⟨h2, e2⟩ := List.getElem?_eq_some_iff.mp b
  exact (List.getElem_inj hN).mp (e1.trans e2.symm)
theorem store_ok2 {M : Model} {A : Around} {E : Value → Shared → Prop} {i : Nat} {x : Str} {v : V} {u : Value} {Q : Unit → Shared → Prop} (I : Inv X pins σ H s) (hN : X.N.Nodup) (hi : X.N[i]? = some x) (hx : Loc X.env.scope x) (r : RelV v u)
    (h : ∀ s', Inv X pins (σ.set i (some v)) H s' → (∃ a, Heap.SameBut a s.heap s'.heap ∧ (a = X.env.locals ∨ X.env.cells.lookup x = some a)) → Q () s') (hf : X.fn x = true ∨ X.env.scope.names.lookup x = some .local := by first | exact .inl rfl | exact .inr rfl | assumption) : wpAny M A (storeName X.env x u) Q E s := by
  obtain ⟨m, hn, hl⟩ := id I.loc
  have hcls : (X.env.scope.kind == .class || (X.env.scope.kind == .module && X.env.locals != X.env.globals)) = false := by rw [I.ok.kind]; rfl
  have hiσ : i < σ.length := by rw [I.len]; exact (List.getElem?_eq_some_iff.mp hi).1
  have cne := I.cne
  have tracked : ∀ {a : Addr} {h' : Heap}, (∃ o, s.heap.get? a = some o ∧ H a = none) → Heap.SameBut a s.heap h' → HOk X.prog X.w H h' := fun {a h'} ha hs b ob e => by
    obtain ⟨_, _, hfree⟩ := ha
    refine (I.hok b ob e).stay (fun c w' hc q => (hs.2 c ?_).trans q) (fun _ q => q) fun _ _ q => q
    rintro rfl
    rcases hc with rfl | hc
    · rw [hfree] at e; cases e
    · rw [hfree] at hc; cases hc
  rcases hx with hk | hk
  · refine wpAny_storeName_local hk hn (fun h' hn' hs => ?_) hcls
    obtain ⟨oL, _, _, hoL, _⟩ := id hn
    refine h _ ⟨I.ok, I.os, I.bare, ⟨fun b o e n hb hx => ?_, fun b o e n hb hx => ?_, I.base.free, fun b o e hx => ?_, I.base.tups, I.base.frzs, I.base.tbls⟩, ⟨_, hn', fun j y v' e1 e2 e3 => ?_⟩, fun y c e => ?_, I.free, I.freeC, fun p hp => ?_, tracked ⟨oL, hoL, I.free⟩ hs, by simpa using I.len⟩ ⟨_, hs, .inl rfl⟩
    · exact (hs.2 b (Nat.ne_of_lt (Nat.lt_of_lt_of_le (Heap.lt_size e) I.ok.above))).trans (I.base.keep b o e n hb hx)
    · obtain ⟨sl, e1⟩ := I.base.slot b o e n hb hx
      exact ⟨sl, (hs.2 b (Nat.ne_of_lt (Nat.lt_of_lt_of_le (Heap.lt_size e) I.ok.above))).trans e1⟩
    · obtain ⟨o', e1⟩ := I.base.there b o e hx
      exact ⟨o', (hs.2 b (Nat.ne_of_lt (Nat.lt_of_lt_of_le (Heap.lt_size e) I.ok.above))).trans e1⟩
    · by_cases hj : j = i
      · subst hj
        rw [hi] at e1; cases e1
        rw [List.getElem?_set_self hiσ] at e2
        cases e2
        exact ⟨u, r, .inl ⟨hk, by simp⟩⟩
      · rw [List.getElem?_set_ne (Ne.symm hj)] at e2
        obtain ⟨u', r', q⟩ := hl j y v' e1 e2 e3
        refine ⟨u', r', ?_⟩
        rcases q with ⟨k, e⟩ | ⟨k, c, e, z⟩
        · refine .inl ⟨k, ?_⟩
          have : y ≠ x := fun e => hj (nodup_ix hN e1 (e ▸ hi))
          simp [this, e]
        · exact .inr ⟨k, c, e, z.sameBut hs (cne y c e)⟩
    · obtain ⟨w', z⟩ := I.cell y c e
      exact ⟨w', z.sameBut hs (cne y c e)⟩
    · obtain ⟨e, n, ne, nf, d⟩ := I.pin p hp
      exact ⟨(hs.2 p.1 ne).trans e, n, ne, nf, d⟩
  · have hfn : X.fn x = true := by
      rcases hf with z | z
      · exact z
      · rw [z] at hk; cases hk
    obtain ⟨c, hc⟩ := I.ok.has x (.inl hk)
    obtain ⟨w', z⟩ := I.cell x c hc
    refine wpAny_storeName_cell I.ok.kind hk hc z (fun h' hc' hs => ?_)
    obtain ⟨oc, hoc, hocd⟩ := id z
    refine h { s with heap := h' } ⟨I.ok, I.os, I.bare, ⟨fun b o e n hb hx => ?_, fun b o e n hb hx => ?_, I.base.free, fun b o e hx => ?_, I.base.tups, I.base.frzs, I.base.tbls⟩, ⟨m, hn.sameBut hs (Ne.symm (cne x c hc)), fun j y v' e1 e2 e3 => ?_⟩, fun y c' e => ?_, I.free, I.freeC, fun p hp => ?_, tracked ⟨oc, hoc, I.freeC x c hc⟩ hs, by simpa using I.len⟩ ⟨c, hs, .inr hc⟩
    · exact (hs.2 b (Nat.ne_of_lt (Nat.lt_of_lt_of_le (Heap.lt_size e) (I.ok.cab x c hfn hc)))).trans (I.base.keep b o e n hb hx)
    · obtain ⟨sl, e1⟩ := I.base.slot b o e n hb hx
      exact ⟨sl, (hs.2 b (Nat.ne_of_lt (Nat.lt_of_lt_of_le (Heap.lt_size e) (I.ok.cab x c hfn hc)))).trans e1⟩
    · obtain ⟨o', e1⟩ := I.base.there b o e hx
      exact ⟨o', (hs.2 b (Nat.ne_of_lt (Nat.lt_of_lt_of_le (Heap.lt_size e) (I.ok.cab x c hfn hc)))).trans e1⟩
    · by_cases hj : j = i
      · subst hj
        rw [hi] at e1; cases e1
        rw [List.getElem?_set_self hiσ] at e2
        cases e2
        exact ⟨u, r, .inr ⟨.inl hk, c, hc, hc'⟩⟩
      · rw [List.getElem?_set_ne (Ne.symm hj)] at e2
        obtain ⟨u', r', q⟩ := hl j y v' e1 e2 e3
        refine ⟨u', r', ?_⟩
        rcases q with q | ⟨k, c', e, z'⟩
        · exact .inl q
        · refine .inr ⟨k, c', e, z'.sameBut hs ?_⟩
          rintro rfl
          exact hj (nodup_ix hN e1 (I.ok.inj _ _ _ e hc ▸ hi))
    · by_cases hcc : c' = c
      · subst hcc; exact ⟨_, hc'⟩
      · obtain ⟨w2, z2⟩ := I.cell y c' e
        exact ⟨w2, z2.sameBut hs hcc⟩
    · obtain ⟨e, n, ne, nf, d⟩ := I.pin p hp
      refine ⟨(hs.2 p.1 ?_).trans e, n, ne, nf, d⟩
      intro q
      rw [q, hoc] at e
      have q' : oc = p.2 := Option.some.inj e
      exact d w' (by rw [← q']; exact hocd)
theorem store_ok {M : Model} {A : Around} {E : Value → Shared → Prop} {i : Nat} {x : Str} {v : V} {u : Value} {Q : Unit → Shared → Prop} (I : Inv X pins σ H s) (hN : X.N.Nodup) (hi : X.N[i]? = some x) (hx : Loc X.env.scope x) (r : RelV v u)
    (h : ∀ s', Inv X pins (σ.set i (some v)) H s' → Q () s') (hf : X.fn x = true ∨ X.env.scope.names.lookup x = some .local := by first | exact .inl rfl | exact .inr rfl | assumption) : wpAny M A (storeName X.env x u) Q E s :=
  store_ok2 I hN hi hx r (fun s' I' _ => h s' I') hf
theorem Inv.call' {s' : Shared} {ch : List Addr} (I : Inv X pins σ H s) (ho : s'.os = s.os) (u : Un (frs X.stack) ch H H' s.heap s'.heap) (hok : HOk X.prog X.w H' s'.heap) (hg : AllBare s'.gens)
    (hch : ∀ b ∈ ch, (b ∈ X.ex ∨ X.s₀.heap.objs.size ≤ b) ∧ b ≠ X.env.locals ∧ (∀ x c, X.env.cells.lookup x = some c → c ≠ b) ∧ ∀ p ∈ X.pn ++ pins, p.1 ≠ b) : Inv X pins σ H' s' := by
  obtain ⟨h', g', d', t', o'⟩ := s'
  have e : o' = s.os := ho
  subst e
  exact I.call (g' := g') (t' := t') (d' := d') u hok hg hch
end
abbrev XK := Value → Option Addr → Hp → Prop
abbrev St := List (Option V)
abbrev VK := V → Hp → Prop
abbrev TE := St → Hp → VK → Prop
abbrev TT := St → Hp → (Bool → Hp → Prop) → Prop
abbrev TA := St → Hp → (List V → Hp → Prop) → Prop
structure Ends where
  nx : St → Hp → Prop
  rt : VK
  bk : St → Hp → Prop := fun _ _ => False
  ct : St → Hp → Prop := fun _ _ => False
abbrev TS := Ends → St → Hp → Prop
def EP (X : Cx) (pins : List (Addr × Obj)) (σ : St) (Q : VK) (u : Value) (s' : Shared) : Prop := ∃ v H', Inv X pins σ H' s' ∧ RelV v u ∧ Q v H'
def TP (X : Cx) (pins : List (Addr × Obj)) (σ : St) (Q : Bool → Hp → Prop) (b : Bool) (s' : Shared) : Prop := ∃ H', Inv X pins σ H' s' ∧ Q b H'
def AP (X : Cx) (pins : List (Addr × Obj)) (σ : St) (Q : List V → Hp → Prop) (us : List Value) (s' : Shared) : Prop := ∃ vs H', Inv X pins σ H' s' ∧ Vals vs us ∧ Q vs H'
def SP (X : Cx) (pins : List (Addr × Obj)) (D : Ends) (f : Flow) (s' : Shared) : Prop :=
  match f with
  | .next => ∃ σ' H', Inv X pins σ' H' s' ∧ D.nx σ' H'
  | .brk => ∃ σ' H', Inv X pins σ' H' s' ∧ D.bk σ' H'
  | .cont => ∃ σ' H', Inv X pins σ' H' s' ∧ D.ct σ' H'
  | .ret u => ∃ v σ' H', Inv X pins σ' H' s' ∧ RelV v u ∧ D.rt v H'
def PE (X : Cx) (e : Expr) (t : TE) : Prop :=
  ∀ (pins : List (Addr × Obj)) (s : Shared) (σ : St) (H : Hp) (Q : VK), Inv X pins σ H s → t σ H Q → wpAny (model X.prog X.w) X.A (eval e X.env) (EP X pins σ Q) X.xe s
def PT (X : Cx) (e : Expr) (t : TT) : Prop :=
  ∀ (pins : List (Addr × Obj)) (s : Shared) (σ : St) (H : Hp) (Q : Bool → Hp → Prop), Inv X pins σ H s → t σ H Q → wpAny (model X.prog X.w) X.A (isTrue e X.env (eval e X.env)) (TP X pins σ Q) X.xe s
def PW (X : Cx) (e : Expr) (t : TT) : Prop :=
  ∀ (whole : Sem Value) (pins : List (Addr × Obj)) (s : Shared) (σ : St) (H : Hp) (Q : Bool → Hp → Prop), Inv X pins σ H s → t σ H Q → wpAny (model X.prog X.w) X.A (isTrue e X.env whole) (TP X pins σ Q) X.xe s
theorem PW.pt {X : Cx} {e : Expr} {t : TT} (h : PW X e t) : PT X e t := h _
def PA (X : Cx) (es : List Expr) (t : TA) : Prop :=
  ∀ (pos : Pos) (pins : List (Addr × Obj)) (s : Shared) (σ : St) (H : Hp) (Q : List V → Hp → Prop), Inv X pins σ H s → t σ H Q → wpAny (model X.prog X.w) X.A (spliced (backTo pos (starEach es X.env))) (AP X pins σ Q) X.xe s
def PS (X : Cx) (st : Stmt) (t : TS) : Prop :=
  ∀ (pins : List (Addr × Obj)) (s : Shared) (σ : St) (H : Hp) (D : Ends), Inv X pins σ H s → t D σ H → wpAny (model X.prog X.w) X.A (exec st X.env) (SP X pins D) X.xe s
def PSs (X : Cx) (st : List Stmt) (t : TS) : Prop :=
  ∀ (pins : List (Addr × Obj)) (s : Shared) (σ : St) (H : Hp) (D : Ends), Inv X pins σ H s → t D σ H → wpAny (model X.prog X.w) X.A (execs st X.env) (SP X pins D) X.xe s
theorem thn {α : Type} {t : Sem α} {Q Q' : α → Shared → Prop} {M : Model} {A : Around} {E : Value → Shared → Prop} {s : Shared} (h : wpAny M A t Q E s) (hQ : ∀ a s, Q a s → Q' a s) : wpAny M A t Q' E s := wpAny_mono h hQ fun _ _ x => x
end L2
namespace L2
open PySem PySem.Spec PyProof.Rows
section
variable {X : Cx}
def tVar (i : Nat) : TE := fun σ H Q => ∃ v, σ[i]? = some (some v) ∧ Q v H
def tC (v : V) : TE := fun _ H Q => Q v H
theorem pe_var {i : Nat} {x : Str} {pos : Pos} (hN : X.N[i]? = some x) (hv : Vis X.env.scope x) (hd : (x == ("__debug__" : Str)) = false := by decide) (hcd : (x == ("__classdict__" : Str)) = false := by decide) : PE X (.Name x pos) (tVar i) := by
  intro pins s σ H Q I h
  obtain ⟨v, e, h⟩ := h
  obtain ⟨m, hn, hl⟩ := I.loc
  obtain ⟨u, r, l⟩ := hl i x v hN e hv
  have fin : EP X pins σ Q u s := ⟨v, H, I, r, h⟩
  rcases l with ⟨hk, hm⟩ | ⟨hk, c, hc, hcell⟩
  · exact wpAny_Name (wpAny_loadName_local I.ok.kind hk hn hm fin) hd
  · rcases hk with hk | hk
    · exact wpAny_Name (wpAny_loadName_cell I.ok.kind hk hc hcell fin) hd
    · exact wpAny_Name (wpAny_loadName_free I.ok.kind hk hc hcell fin hcd) hd
theorem pe_int {i j pos} : PE X (.Constant (.int i) j pos) (tC (.int i)) := fun _ _ _ H _ I h => wpAny_Constant_int ⟨.int i, H, I.tok _, ⟨_, rfl⟩, h⟩
theorem pe_bl {b j pos} : PE X (.Constant (.bool b) j pos) (tC (.bl b)) := fun _ _ _ H _ I h => Constant_bool ⟨.bl b, H, I, rfl, h⟩
theorem pe_non {j pos} : PE X (.Constant .none j pos) (tC .non) := fun _ _ _ H _ I h => Constant_none ⟨.non, H, I, rfl, h⟩
theorem pe_str {x j pos} : PE X (.Constant (.str x) j pos) (tC (.str x)) := fun _ _ _ H _ I h => Calls.Constant_str ⟨.str x, H, I.tok _, ⟨_, rfl⟩, h⟩
def Gl (X : Cx) (x : Str) : Prop := X.env.kindOf x = some .globalImplicit
theorem ld_glob {E : Value → Shared → Prop} {pins : List (Addr × Obj)} {s : Shared} {σ : St} {H : Hp} {x : Str} {u : Value} {pos : Pos} {Q : Value → Shared → Prop} (I : Inv X pins σ H s) (hg : Gl X x) (hm : X.mg x = some u) (h : Q u s)
    (hd : (x == ("__debug__" : Str)) = false := by decide) : wpAny (model X.prog X.w) X.A (eval (.Name x pos) X.env) Q E s :=
  Calls.Name_function_global I.ok.kind hg (Calls.loadGlobal_global (by rw [I.ok.glob]; exact I.mod.glob.keeps I.bk) hm h) hd
theorem ld_blt {E : Value → Shared → Prop} {pins : List (Addr × Obj)} {s : Shared} {σ : St} {H : Hp} {x : Str} {u : Value} {pos : Pos} {Q : Value → Shared → Prop} (I : Inv X pins σ H s) (hg : Gl X x) (hm : X.mg x = none) (hv : bootBuiltins x = some u) (h : Q u s)
    (hn : x ≠ "__name__" := by decide) (hd : (x == ("__debug__" : Str)) = false := by decide) : wpAny (model X.prog X.w) X.A (eval (.Name x pos) X.env) Q E s := by
  obtain ⟨mb, h1, h2⟩ := I.mod.blt
  exact Calls.Name_function_global I.ok.kind hg (Calls.loadGlobal_builtin (by rw [I.ok.glob]; exact I.mod.glob.keeps I.bk) hm (by rw [I.ok.blt]; exact h1.keeps I.bk) ((h2 x hn).trans hv) h) hd
theorem pe_bltn {x : Str} {v : V} {u : Value} {pos : Pos} (hg : Gl X x) (hm : X.mg x = none) (hv : bootBuiltins x = some u) (r : RelV v u) (hn : x ≠ "__name__" := by decide) (hd : (x == ("__debug__" : Str)) = false := by decide) : PE X (.Name x pos) (tC v) :=
  fun _ _ _ H _ I h => ld_blt I hg hm hv ⟨v, H, I, r, h⟩ hn hd
variable {a b : Expr} {ta tb : TE} {pos : Pos}
def tB (t : TE) : TT := fun σ H Q => t σ H fun x H1 => ∃ c, x = .bl c ∧ Q c H1
theorem pt_val {e : Expr} {t : TE} (h : PE X e t) (he : ∀ whole, isTrue e X.env whole = (do let v ← whole; standAt e.pos; holding [v] (truthy v)) := by intro _; rfl) : PT X e (tB t) := by
  intro pins s σ H Q I hw
  refine isTrue_plain (thn (h pins s σ H _ I hw) fun v s1 ⟨x, H1, I1, r1, q1⟩ => ?_) (he _)
  obtain ⟨d, rfl, q⟩ := q1
  cases r1
  exact wpAny_truthy_bool ⟨H1, I1, q⟩
variable {tA tB' : TT} {rest : List Expr}
def tAnd (t u : TT) : TT := fun σ H Q => t σ H fun c H1 => if c = true then u σ H1 Q else Q false H1
def tNot (t : TT) : TT := fun σ H Q => t σ H fun c H1 => Q (!c) H1
theorem pw_and1 (ha : PT X a tA) : PW X (.BoolOp .And [a] pos) tA := by
  intro wh pins s σ H Q I h
  refine isTrue_and (thn (ha pins s σ H Q I h) fun c s1 e => ?_)
  cases c with
  | true => exact isTrue_and_nil e
  | false => exact e
theorem pw_and (ha : PT X a tA) (hb : PW X (.BoolOp .And (b :: rest) pos) tB') : PW X (.BoolOp .And (a :: b :: rest) pos) (tAnd tA tB') := by
  intro wh pins s σ H Q I h
  refine isTrue_and (thn (ha pins s σ H _ I h) fun c s1 ⟨H1, I1, q1⟩ => ?_)
  cases c with
  | true => exact hb wh pins s1 σ H1 Q I1 q1
  | false => exact ⟨H1, I1, q1⟩
theorem pt_not (ha : PT X a tA) : PT X (.UnaryOp .Not a pos) (tNot tA) := by
  intro pins s σ H Q I h
  exact isTrue_not (ha pins s σ H (fun c H1 => Q (!c) H1) I h)
def tAndV (ta tb : TE) : TE := fun σ H Q => ta σ H fun x H1 => ∃ c, x = .bl c ∧ if c = true then tb σ H1 Q else Q (.bl false) H1
def tNotV (ta : TE) : TE := fun σ H Q => ta σ H fun x H1 => ∃ c, x = .bl c ∧ Q (.bl (!c)) H1
theorem pe_one {op} {t : TE} (h : PE X a t) : PE X (.BoolOp op [a] pos) t := fun pins s σ H Q I hw => BoolOp_one (h pins s σ H Q I hw)
theorem pe_and (ha : PE X a ta) (hb : PE X (.BoolOp .And (b :: rest) pos) tb) : PE X (.BoolOp .And (a :: b :: rest) pos) (tAndV ta tb) := by
  intro pins s σ H Q I h
  refine BoolOp_and (thn (ha pins s σ H _ I h) fun v s1 ⟨x, H1, I1, r1, q1⟩ => ?_)
  obtain ⟨c, rfl, q1⟩ := q1
  cases r1
  refine wpAny_truthy_bool ?_
  cases c with
  | true => exact hb pins s1 σ H1 Q I1 q1
  | false => exact ⟨.bl false, H1, I1, rfl, q1⟩
theorem pe_not (ha : PE X a ta) : PE X (.UnaryOp .Not a pos) (tNotV ta) := by
  intro pins s σ H Q I h
  refine UnaryOp_ (thn (ha pins s σ H _ I h) fun v s1 ⟨x, H1, I1, r1, q1⟩ => ?_)
  obtain ⟨c, rfl, q1⟩ := q1
  cases r1
  exact not_of (wpAny_truthy_bool ⟨.bl (!c), H1, I1, rfl, q1⟩)
end
end L2
namespace L2
open PySem PySem.Spec PyProof.Rows
def SqL (K : PySem.W.Frag) (H : Hp) (a : Addr) (xs : List V) : Prop :=
  Rd H a (.lst xs) ∨
    ∃ (o : Obj) (its : Array Value) (n : Nat), K.lookup a = some o ∧ o.cls = .type "list" ∧ o.dict = none ∧ o.data = .seq its n ∧ its.size ≤ sizeLine ∧ Vals xs its.toList
def SqT (K : PySem.W.Frag) (H : Hp) (a : Addr) (xs : List V) : Prop :=
  Rd H a (.tup xs) ∨
    ∃ (o : Obj) (its : Array Value) (n : Nat), K.lookup a = some o ∧ o.cls = .type "tuple" ∧ o.data = .seq its n ∧ its.size ≤ sizeLine ∧ Vals xs its.toList
def absV : Value → Option V
  | .none => some .non
  | .bool b => some (.bl b)
  | .int i _ => some (.int i)
  | .str x _ => some (.str x)
  | .bytes b _ => some (.byt b)
  | .float b _ => some (.flt b)
  | .ref a => some (.ref a)
  | .type n => some (.ty n)
  | _ => none
theorem RelV.abs {x : V} {u : Value} (r : RelV x u) : absV u = some x := by
  cases x with
  | non => cases r; rfl
  | bl _ => cases r; rfl
  | int _ => obtain ⟨t, rfl⟩ := r; rfl
  | str _ => obtain ⟨t, rfl⟩ := r; rfl
  | byt _ => obtain ⟨t, rfl⟩ := r; rfl
  | flt _ => obtain ⟨t, rfl⟩ := r; rfl
  | ref _ => cases r; rfl
  | ty _ => cases r; rfl
theorem RelV.inj {x y : V} {u : Value} (r : RelV x u) (q : RelV y u) : x = y := Option.some.inj (r.abs.symm.trans q.abs)
theorem Vals.inj : ∀ {xs ys : List V} {us : List Value}, Vals xs us → Vals ys us → xs = ys
  | _, _, _, .nil, .nil => rfl
  | _, _, _, .cons r t, .cons r' t' => by rw [r.inj r', Vals.inj t t']
section
variable {X : Cx} {pins : List (Addr × Obj)} {σ : St} {H : Hp} {s : Shared} {a : Addr} {xs ys : List V}
theorem SqL.of {K : PySem.W.Frag} (h : H a = some (.lst xs)) : SqL K H a xs := .inl (.inl h)
theorem SqT.of {K : PySem.W.Frag} (h : H a = some (.tup xs)) : SqT K H a xs := .inl (.inl h)
theorem Inv.list (I : Inv X pins σ H s) (h : SqL X.K H a xs) : ∃ its : List Value, Vals xs its ∧ PlainL s.heap a its.toArray ∧ xs.length ≤ sizeLine := by
  rcases h with h | ⟨o, its, n, hk, hc, hd, hs, hz, r⟩
  · obtain ⟨z, its, n, r, e⟩ := h.ok I.hok
    exact ⟨its, r, ⟨_, n, e, rfl, rfl, rfl⟩, z⟩
  · refine ⟨its.toList, r, ⟨o, n, I.kIn a o hk, hc, hd, by simpa using hs⟩, ?_⟩
    have e := r.length
    simp only [Array.length_toList] at e
    omega
theorem Inv.tuple (I : Inv X pins σ H s) (h : SqT X.K H a xs) : ∃ its : List Value, Vals xs its ∧ IsTup s.heap a its.toArray ∧ xs.length ≤ sizeLine := by
  rcases h with h | ⟨o, its, n, hk, hc, hs, hz, r⟩
  · obtain ⟨z, its, r, p⟩ := h.ok I.hok
    exact ⟨its, r, p, z⟩
  · refine ⟨its.toList, r, ⟨o, I.kIn a o hk, hc, n, by simpa using hs⟩, ?_⟩
    have e := r.length
    simp only [Array.length_toList] at e
    omega
theorem Inv.list_inj (I : Inv X pins σ H s) (h : SqL X.K H a xs) (h' : SqL X.K H a ys) : xs = ys := by
  obtain ⟨its, r, ⟨o, n, e, _, _, d⟩, _⟩ := I.list h
  obtain ⟨its', r', ⟨o', n', e', _, _, d'⟩, _⟩ := I.list h'
  rw [e] at e'; cases e'
  rw [d] at d'
  injection d' with d1 _
  have : its = its' := by simpa using congrArg Array.toList d1
  subst this
  exact r.inj r'
theorem Inv.tuple_inj (I : Inv X pins σ H s) (h : SqT X.K H a xs) (h' : SqT X.K H a ys) : xs = ys := by
  obtain ⟨its, r, ⟨o, e, _, n, d⟩, _⟩ := I.tuple h
  obtain ⟨its', r', ⟨o', e', _, n', d'⟩, _⟩ := I.tuple h'
  rw [e] at e'; cases e'
  rw [d] at d'
  injection d' with d1 _
  have : its = its' := by simpa using congrArg Array.toList d1
  subst this
  exact r.inj r'
end
abbrev Cx.wish (X : Cx) (E : Value → Shared → Prop) : Cx := { X with xe := E }
abbrev Cx.nox (X : Cx) : Cx := X.wish fun _ _ => False
theorem Cx.Ok.wish {X : Cx} (ok : X.Ok) (E : Value → Shared → Prop) : (X.wish E).Ok :=
  ⟨ok.mod, ok.kind, ok.glob, ok.blt, ok.above, ok.inj, ok.has, ok.cab, ok.hd, ok.frames, ok.stk, ok.exf, ok.bs, ok.bsz, ok.noex, ok.exfs, ok.funs, ok.frf⟩
theorem Cx.Ok.unwish {X : Cx} {E : Value → Shared → Prop} (ok : (X.wish E).Ok) : X.Ok :=
  ⟨ok.mod, ok.kind, ok.glob, ok.blt, ok.above, ok.inj, ok.has, ok.cab, ok.hd, ok.frames, ok.stk, ok.exf, ok.bs, ok.bsz, ok.noex, ok.exfs, ok.funs, ok.frf⟩
section
variable {X : Cx} {pins : List (Addr × Obj)} {σ : St} {H : Hp} {s : Shared} {E : Value → Shared → Prop}
theorem Inv.wish (I : Inv X pins σ H s) (E : Value → Shared → Prop) : Inv (X.wish E) pins σ H s := ⟨I.ok.wish E, I.os, I.bare, I.base, I.loc, I.cell, I.free, I.freeC, I.pin, I.hok, I.len⟩
theorem Inv.unwish (I : Inv (X.wish E) pins σ H s) : Inv X pins σ H s := ⟨I.ok.unwish, I.os, I.bare, I.base, I.loc, I.cell, I.free, I.freeC, I.pin, I.hok, I.len⟩
theorem SP.unwish {D : Ends} {f : Flow} {s' : Shared} (h : SP (X.wish E) pins D f s') : SP X pins D f s' := by
  cases f with
  | next => obtain ⟨σ', H', I, q⟩ := h; exact ⟨σ', H', I.unwish, q⟩
  | brk => obtain ⟨σ', H', I, q⟩ := h; exact ⟨σ', H', I.unwish, q⟩
  | cont => obtain ⟨σ', H', I, q⟩ := h; exact ⟨σ', H', I.unwish, q⟩
  | ret u => obtain ⟨v, σ', H', I, r, q⟩ := h; exact ⟨v, σ', H', I.unwish, r, q⟩
theorem PE.nox {e : Expr} {t : TE} (h : PE X.nox e t) : PE X e t := fun pins s σ H Q I hw =>
  wpAny_mono (h pins s σ H Q (I.wish _) hw) (fun _ _ ⟨v, H', I', r, q⟩ => ⟨v, H', I'.unwish, r, q⟩) fun _ _ z => False.elim z
theorem PT.nox {e : Expr} {t : TT} (h : PT X.nox e t) : PT X e t := fun pins s σ H Q I hw =>
  wpAny_mono (h pins s σ H Q (I.wish _) hw) (fun _ _ ⟨H', I', q⟩ => ⟨H', I'.unwish, q⟩) fun _ _ z => False.elim z
theorem PSs.nox {st : List Stmt} {t : TS} (h : PSs X.nox st t) : PSs X st t := fun pins s σ H D I hw =>
  wpAny_mono (h pins s σ H D (I.wish _) hw) (fun _ _ q => q.unwish) fun _ _ z => False.elim z
end
section
variable {X : Cx} {st : Stmt} {rest : List Stmt} {t u : TS} {e : Expr} {te : TE} {pos : Pos}
def tNext : TS := fun D σ H => D.nx σ H
def tSeq (t u : TS) : TS := fun D σ H => t { D with nx := u D } σ H
theorem pss_nil : PSs X [] tNext := fun _ _ σ H _ I h => wpAny_execs_nil ⟨σ, H, I, h⟩
theorem pss_cons (h1 : PS X st t) (h2 : PSs X rest u) : PSs X (st :: rest) (tSeq t u) := by
  intro pins s σ H D I h
  refine wpAny_execs_cons (thn (h1 pins s σ H { D with nx := u D } I h) fun f s1 q => ?_)
  cases f with
  | next =>
    obtain ⟨σ', H', I', q⟩ := q
    exact h2 pins s1 σ' H' D I' q
  | ret v => exact q
  | brk => exact q
  | cont => exact q
theorem pss_one (h1 : PS X st t) : PSs X [st] t := by
  intro pins s σ H D I h
  refine wpAny_execs_cons (thn (h1 pins s σ H D I h) fun f s1 q => ?_)
  cases f with
  | next => exact wpAny_execs_nil q
  | ret v => exact q
  | brk => exact q
  | cont => exact q
theorem Inv.quiet {pins : List (Addr × Obj)} {σ : St} {H : Hp} {s : Shared} (I : Inv X pins σ H s) : interactive X.env = false := by simp [interactive, I.ok.kind]
def tDrop (te : TE) : TS := fun D σ H => te σ H fun _ H1 => D.nx σ H1
theorem ps_expr (he : PE X e te) (hs : swapsWith e none pos.line X.env = pure false := by rfl) : PS X (.Expr e pos) (tDrop te) := by
  intro pins s σ H D I h
  exact wpAny_Expr_any (thn (he pins s σ H _ I h) fun v s1 ⟨x, H1, I1, r1, q1⟩ => ⟨σ, H1, I1, q1⟩) I.quiet hs
def tRet (te : TE) : TS := fun D σ H => te σ H D.rt
theorem ps_ret (he : PE X e te) : PS X (.Return (some e) pos) (tRet te) := by
  intro pins s σ H D I h
  exact wpAny_Return_some (thn (he pins s σ H _ I h) fun v s1 ⟨x, H1, I1, r1, q1⟩ => ⟨x, σ, H1, I1, r1, q1⟩)
def tIfS (c : TT) (t u : TS) : TS := fun D σ H => c σ H fun b H1 => if b = true then t D σ H1 else u D σ H1
theorem ps_if {c : Expr} {a b : List Stmt} {tc : TT} (hc : PT X c tc) (ha : PSs X a t) (hb : PSs X b u) : PS X (.If c a b pos) (tIfS tc t u) := by
  intro pins s σ H D I h
  refine wpAny_If (thn (hc pins s σ H _ I h) fun d s1 ⟨H1, I1, q1⟩ => ?_)
  cases d with
  | true => exact ha pins s1 σ H1 D I1 q1
  | false => exact hb pins s1 σ H1 D I1 q1
end
abbrev TG := V → St → Hp → (St → Hp → Prop) → Prop
abbrev TGs := List V → St → Hp → (St → Hp → Prop) → Prop
def PG (X : Cx) (target : Expr) (t : TG) : Prop :=
  ∀ (pins : List (Addr × Obj)) (s : Shared) (σ : St) (H : Hp) (v : V) (u : Value) (Q : St → Hp → Prop), Inv X pins σ H s → RelV v u → t v σ H Q →
    wpAny (model X.prog X.w) X.A (assign target X.env u) (fun _ s' => ∃ σ' H', Inv X pins σ' H' s' ∧ Q σ' H') X.xe s
def PGs (X : Cx) (ts : List Expr) (t : TGs) : Prop :=
  ∀ (pins : List (Addr × Obj)) (s : Shared) (σ : St) (H : Hp) (vs : List V) (us : List Value) (Q : St → Hp → Prop), Inv X pins σ H s → Vals vs us → t vs σ H Q →
    wpAny (model X.prog X.w) X.A (assignInOrder ((assignEach ts X.env).map (·.2)) us) (fun _ s' => ∃ σ' H', Inv X pins σ' H' s' ∧ Q σ' H') X.xe s
abbrev TSet := V → V → V → Hp → (Hp → Prop) → Prop
def PSet (X : Cx) (t : TSet) : Prop :=
  ∀ (pins : List (Addr × Obj)) (s : Shared) (σ : St) (H : Hp) (o i v : V) (ov iv u : Value) (Q : Hp → Prop), Inv X pins σ H s → RelV o ov → RelV i iv → RelV v u → t o i v H Q →
    wpAny (model X.prog X.w) X.A (setItem ov iv u) (fun _ s' => ∃ H', Inv X pins σ H' s' ∧ Q H') X.xe s
abbrev TIp := V → V → Hp → VK → Prop
def PIp (X : Cx) (op : Operator) (t : TIp) : Prop :=
  ∀ (pins : List (Addr × Obj)) (s : Shared) (σ : St) (H : Hp) (x y : V) (v u : Value) (Q : VK), Inv X pins σ H s → RelV x v → RelV y u → t x y H Q →
    wpAny (model X.prog X.w) X.A (inplaceOp op v u) (EP X pins σ Q) X.xe s
section
variable {X : Cx} {pos : Pos}
def gName (i : Nat) : TG := fun v σ H Q => Q (σ.set i (some v)) H
theorem pg_name {i : Nat} {x : Str} (hN : X.N.Nodup) (hi : X.N[i]? = some x) (hx : Loc X.env.scope x) (hf : X.fn x = true ∨ X.env.scope.names.lookup x = some .local := by first | exact .inl rfl | exact .inr rfl | assumption) : PG X (.Name x pos) (gName i) := by
  intro pins s σ H v u Q I r h
  exact wpAny_assign_Name (store_ok I hN hi hx r (fun s' I' => ⟨_, H, I', h⟩) hf)
def gNil : TGs := fun vs σ H Q => vs = [] ∧ Q σ H
def gCons (t : TG) (u : TGs) : TGs := fun vs σ H Q => ∃ v r, vs = v :: r ∧ t v σ H fun σ' H' => u r σ' H' Q
theorem pgs_nil : PGs X [] gNil := by
  intro pins s σ H vs us Q I r h
  obtain ⟨e, h⟩ := h
  subst e
  cases r
  exact assignInOrder_nil ⟨σ, H, I, h⟩
theorem pgs_cons {e : Expr} {es : List Expr} {t : TG} {u : TGs} (h1 : PG X e t) (h2 : PGs X es u)
    (hs : (assignEach (e :: es) X.env).map (·.2) = assign e X.env :: (assignEach es X.env).map (·.2) := by rfl) : PGs X (e :: es) (gCons t u) := by
  intro pins s σ H vs us Q I r h
  obtain ⟨v, vr, e1, h⟩ := h
  subst e1
  cases r with
  | cons r rr =>
    rw [hs]
    refine assignInOrder_cons (thn (h1 pins s σ H _ _ _ I r h) fun _ s1 ⟨σ1, H1, I1, q1⟩ => ?_)
    exact h2 pins s1 σ1 H1 _ _ Q I1 rr q1
def gTup (K : PySem.W.Frag) (n : Nat) (t : TGs) : TG := fun v σ H Q => ∃ a xs, v = .ref a ∧ SqT K H a xs ∧ xs.length = n ∧ t xs σ H Q
theorem pg_tup {es : List Expr} {k : Nat} {t : TGs} {n : Nat} (hc : X.calm = true) (h : PGs X es t)
    (hn : (assignEach es X.env).length = n := by rfl) (hst : (assignEach es X.env).findIdx? (·.1) = none := by rfl) : PG X (.Tuple es k pos) (gTup X.K n t) := by
  intro pins s σ H v u Q I r hw
  obtain ⟨a, xs, e1, hq, hl, hw⟩ := hw
  subst e1
  cases r
  obtain ⟨its, rv, ht, hz⟩ := I.tuple hq
  refine assign_Tuple_tuple (I.ok.hd hc) ht (by simp [hn, ← hl, rv.length]) hst fun h' hx => ?_
  have I1 : Inv X pins σ H { s with heap := h' } := I.kept (t' := s.toks) fun b o e => hx b o (Nat.ne_of_lt (Heap.lt_size e)) e
  exact h pins _ σ H xs _ Q I1 (by simpa using rv) hw
def gSub (to ti : TE) (t : TSet) : TG := fun v σ H Q => to σ H fun o H1 => ti σ H1 fun i H2 => t o i v H2 fun H3 => Q σ H3
theorem pg_sub {o i : Expr} {to ti : TE} {t : TSet} (ho : PE X o to) (hi : PE X i ti) (hs : PSet X t)
    (ha : ∀ v, assign (.Subscript o i pos) X.env v = (do
      let ov ← holding [v] (eval o X.env)
      let iv ← holding [v, ov] (eval i X.env)
      standAt pos
      holding [v, ov, iv] (setItem ov iv v)
      release [v, ov, iv] []) := by intro _; rfl) : PG X (.Subscript o i pos) (gSub to ti t) := by
  intro pins s σ H v u Q I r h
  rw [ha]
  refine wpAny_bind (wpAny_holding (thn (ho pins s σ H _ I h) fun ov s1 ⟨x, H1, I1, r1, q1⟩ => ?_))
  refine wpAny_bind (wpAny_holding (thn (hi pins s1 σ H1 _ I1 q1) fun iv s2 ⟨y, H2, I2, r2, q2⟩ => ?_))
  refine wpAny_bind (wpAny_standAt (wpAny_bind (wpAny_holding (thn (hs pins s2 σ H2 x y v ov iv u _ I2 r1 r2 r q2) fun _ s3 ⟨H3, I3, q3⟩ => ?_))))
  exact wpAny_release ⟨σ, H3, I3, q3⟩
def tAsg (te : TE) (g : TG) : TS := fun D σ H => te σ H fun x H1 => g x σ H1 D.nx
theorem ps_asg {tg e : Expr} {te : TE} {g : TG} (he : PE X e te) (hg : PG X tg g) (hs : swapsWithSole [tg] e pos.line X.env = pure false := by rfl) (hw : swappedStores [tg] e X.env = pure none := by rfl)
    (h1 : (assignEach [tg] X.env).map (·.2) = [assign tg X.env] := by rfl) : PS X (.Assign [tg] e pos) (tAsg te g) := by
  intro pins s σ H D I h
  refine wpAny_Assign_stores (thn (he pins s σ H _ I h) fun v s1 ⟨x, H1, I1, r1, q1⟩ => ?_) hs hw
  rw [h1]
  exact thn (hg pins s1 σ H1 x v _ I1 r1 q1) fun _ s2 q => q
theorem ps_set {i : Nat} {x : Str} {e : Expr} {te : TE} {pos' : Pos} (hN : X.N.Nodup) (hi : X.N[i]? = some x) (hx : Loc X.env.scope x) (he : PE X e te) (hs : swapsWith e (some (.Name x pos')) pos.line X.env = pure false := by rfl) (hf : X.fn x = true ∨ X.env.scope.names.lookup x = some .local := by first | exact .inl rfl | exact .inr rfl | assumption) :
    PS X (.Assign [.Name x pos'] e pos) (tAsg te (gName i)) := by
  intro pins s σ H D I h
  refine wpAny_Assign_Name (thn (he pins s σ H _ I h) fun v s1 ⟨y, H1, I1, r1, q1⟩ => ?_) hs
  exact store_ok I1 hN hi hx r1 (fun s2 I2 => ⟨_, H1, I2, q1⟩) hf
def tAug (i : Nat) (te : TE) (ti : TIp) : TS := fun D σ H => ∃ x, σ[i]? = some (some x) ∧ te σ H fun y H1 => ti x y H1 fun z H2 => D.nx (σ.set i (some z)) H2
theorem ps_aug {i : Nat} {x : Str} {e : Expr} {te : TE} {op : Operator} {ti : TIp} {pos' : Pos} (hN : X.N.Nodup) (hi : X.N[i]? = some x) (hx : Loc X.env.scope x) (he : PE X e te) (ho : PIp X op ti) (hf : X.fn x = true ∨ X.env.scope.names.lookup x = some .local := by first | exact .inl rfl | exact .inr rfl | assumption) :
    PS X (.AugAssign (.Name x pos') op e pos) (tAug i te ti) := by
  intro pins s σ H D I h
  obtain ⟨v, e1, h⟩ := h
  obtain ⟨m, hn, hl⟩ := I.loc
  have vis : Vis X.env.scope x := by rcases hx with k | k; exact .inl k; exact .inr (.inl k)
  obtain ⟨u, r, l⟩ := hl i x v hi e1 vis
  refine wpAny_AugAssign_Name ?_
  have go : wpAny (model X.prog X.w) X.A (eval e X.env) (fun w s₂ => wpAny (model X.prog X.w) X.A (inplaceOp op u w) (fun r s₃ => wpAny (model X.prog X.w) X.A (storeName X.env x r) (fun _ => SP X pins D .next) X.xe s₃) X.xe s₂) X.xe s := by
    refine thn (he pins s σ H _ I h) fun w s1 ⟨y, H1, I1, r1, q1⟩ => ?_
    refine thn (ho pins s1 σ H1 v y u w _ I1 r r1 q1) fun z s2 ⟨zv, H2, I2, r2, q2⟩ => ?_
    exact store_ok I2 hN hi hx r2 (fun s3 I3 => ⟨_, H2, I3, q2⟩) hf
  rcases l with ⟨hk, hm⟩ | ⟨hk, c, hc, hcell⟩
  · exact wpAny_loadName_local I.ok.kind hk hn hm go
  · rcases hk with hk | hk
    · exact wpAny_loadName_cell I.ok.kind hk hc hcell go
    · rcases hx with k | k
      · have : X.env.scope.names.lookup x = some .free := hk
        rw [k] at this; cases this
      · have : X.env.scope.names.lookup x = some .free := hk
        rw [k] at this; cases this
end
section
variable {X : Cx} {pos : Pos}
end
structure It where
  go : Nat → Hp → Prop
  yld : Nat → Hp → V → Hp → Prop
  stop : Nat → Hp → Prop
def FpOk (X : Cx) (pins : List (Addr × Obj)) (H : Hp) (b : Addr) : Prop :=
  H b = none ∧ b ≠ X.env.locals ∧ b ∉ X.fs ∧ (b ∈ X.ex ∨ X.s₀.heap.objs.size ≤ b) ∧ (∀ x c, X.env.cells.lookup x = some c → c ≠ b) ∧ ∀ p ∈ X.pn ++ pins, p.1 ≠ b
theorem Inv.fpOk {X : Cx} {pins : List (Addr × Obj)} {σ : St} {H H' : Hp} {s : Shared} {b : Addr} (I : Inv X pins σ H s) (hb : s.heap.objs.size ≤ b) (hn : H' b = none) : FpOk X pins H' b := by
  refine ⟨hn, Nat.ne_of_gt (Nat.lt_of_lt_of_le I.lt hb), I.nofs hb, .inr (Nat.le_trans I.sz hb), fun x c e z => ?_, fun p hp z => ?_⟩
  · obtain ⟨v, q⟩ := I.cell x c e
    exact absurd (Nat.lt_of_lt_of_le q.lt (by rw [z]; exact hb)) (Nat.lt_irrefl _)
  · exact absurd (Nat.lt_of_lt_of_le (Heap.lt_size (I.pin p hp).1) (by rw [z]; exact hb)) (Nat.lt_irrefl _)
structure Turn (P : Program) (w : World) (K : PySem.W.Frag) (tg : Expr) (J : It) (fp : List Addr) (it : Addr) (tn : Nat → Heap → Prop) : Prop where
  mem : it ∈ fp
  obj : ∀ i h, tn i h → ∀ b ∈ fp, ∃ o, h.get? b = some o ∧ ∀ v, o.data ≠ .cell v
  keep : ∀ i h h', tn i h → (∀ b ∈ fp, ∀ o, h.get? b = some o → h'.get? b = some o) → tn i h'
  item : ∀ (X : Cx), X.prog = P → X.w = w → X.K = K → X.calm = true → ∀ (i : Nat) (pins : List (Addr × Obj)) (s : Shared) (σ : St) (H : Hp) (E : Value → Shared → Prop), Inv X pins σ H s → (∀ b ∈ fp, FpOk X pins H b) → tn i s.heap → J.go i H →
    wpAny (model P w) X.A (pyNext (.ref it)) (fun r s1 => ∃ u, r = some u ∧
      wpAny (model P w) X.A (letOwnedTupleGo tg (.ref it) u) (fun _ s2 => ∃ x H', Inv X pins σ H' s2 ∧ RelV x u ∧ J.yld i H x H' ∧ tn (i + 1) s2.heap ∧ ∀ b ∈ fp, H' b = none) E s1) E s
  done : ∀ (X : Cx), X.prog = P → X.w = w → X.K = K → X.calm = true → ∀ (i : Nat) (pins : List (Addr × Obj)) (s : Shared) (σ : St) (H : Hp) (E : Value → Shared → Prop), Inv X pins σ H s → (∀ b ∈ fp, FpOk X pins H b) → tn i s.heap → J.stop i H →
    wpAny (model P w) X.A (pyNext (.ref it)) (fun r s1 => r = none ∧ Inv X pins σ H s1) E s
  self : ∀ (A : Around) (i : Nat) (s : Shared) (Q : Value → Shared → Prop) (E : Value → Shared → Prop), tn i s.heap → Q (.ref it) s → wpAny (model P w) A (pyIter (.ref it)) Q E s
abbrev TI := St → Hp → (It → Hp → Prop) → Prop
def PIE (X : Cx) (pins : List (Addr × Obj)) (σ : St) (tg : Expr) (R : It → Hp → Prop) (itv : Value) (s2 : Shared) : Prop :=
  ∃ (it : Addr) (fp : List Addr) (tn : Nat → Heap → Prop) (J : It) (H' : Hp), itv = .ref it ∧ Inv X pins σ H' s2 ∧ Turn X.prog X.w X.K tg J fp it tn ∧ tn 0 s2.heap ∧ (∀ b ∈ fp, FpOk X pins H' b) ∧ R J H'
def PI (X : Cx) (tg iter : Expr) (wi : TI) : Prop :=
  ∀ (pins : List (Addr × Obj)) (s : Shared) (σ : St) (H : Hp) (R : It → Hp → Prop), Inv X pins σ H s → wi σ H R →
    wpAny (model X.prog X.w) X.A (eval iter X.env) (fun v s1 => wpAny (model X.prog X.w) X.A (pyIter v) (PIE X pins σ tg R) X.xe s1) X.xe s
theorem go_of {M : Model} {A : Around} {E : Value → Shared → Prop} {s : Shared} {tg : Expr} {it : Addr} {u : Value} {o : Obj} {n : String} {vs : Array Value} {Q : Unit → Shared → Prop} (ho : s.heap.get? it = some o) (hc : o.cls = .type n) (hd : o.data = .fields vs)
    (hn : ["enumerate", "zip", "dict_itemiterator", "dict_reverseitemiterator", "odict_iterator", "itertools.zip_longest", "itertools.pairwise"].contains n = false) (hQ : Q () s) : wpAny M A (letOwnedTupleGo tg (.ref it) u) Q E s := by
  unfold letOwnedTupleGo
  cases tg <;> first
    | exact wpAny_pure hQ
    | (cases u <;> first
        | exact wpAny_pure hQ
        | (refine wpAny_bind (wpAny_load ho ?_)
           rw [hc, hd]
           show wpAny M A (if (["enumerate", "zip", "dict_itemiterator", "dict_reverseitemiterator", "odict_iterator", "itertools.zip_longest", "itertools.pairwise"].contains n && vs[0]? == some (rawInt _)) = true then _ else _) Q E s
           rw [if_neg (by intro h; rw [hn, Bool.false_and] at h; cases h)]
           exact wpAny_pure hQ))
def Itl (K : PySem.W.Frag) (a : Addr) : It :=
  ⟨fun i H => ∃ xs x, SqL K H a xs ∧ xs[i]? = some x, fun i H x H' => H' = H ∧ ∀ xs, SqL K H a xs → xs[i]? = some x, fun i H => ∃ xs, SqL K H a xs ∧ xs.length ≤ i⟩
def Itt (K : PySem.W.Frag) (a : Addr) : It :=
  ⟨fun i H => ∃ xs x, SqT K H a xs ∧ xs[i]? = some x, fun i H x H' => H' = H ∧ ∀ xs, SqT K H a xs → xs[i]? = some x, fun i H => ∃ xs, SqT K H a xs ∧ xs.length ≤ i⟩
def Itr (lo : Int) (n : Nat) : It := ⟨fun i _ => i < n, fun i H x H' => H' = H ∧ x = .int (lo + i), fun i _ => n ≤ i⟩
theorem turn_list {P : Program} {w : World} {K : PySem.W.Frag} {tg : Expr} (a it : Addr) : Turn P w K tg (Itl K a) [it] it (fun i h => h.IsListIter it a i) where
  mem := by simp
  obj := fun i h st b hb => by
    have e : b = it := by simpa using hb
    subst e
    obtain ⟨o, e, c, d⟩ := st
    exact ⟨o, e, fun v z => by rw [d] at z; cases z⟩
  keep := fun i h h' st k => st.at fun o e => k it (by simp) o e
  item := by
    intro X hP hw hK hc i pins s σ H E I hf st hg
    subst hP hw hK
    obtain ⟨xs, x, hq, hx⟩ := hg
    obtain ⟨its, rv, p, hz⟩ := I.list hq
    obtain ⟨u, hu, ru⟩ := rv.get hx
    obtain ⟨f0, f1, f2, f3, f4, f5⟩ := hf it (by simp)
    refine wpAny_pyNext_list_item st p.isList (x := u) (by simpa using hu) fun h' st' sb => ?_
    have I1 : Inv X pins σ H { s with heap := h' } := I.turned (t' := s.toks) (fun b o hb e => (sb.2 b hb).trans e) f0 f1 f3 f4 f5
    obtain ⟨o, e, c, d⟩ := id st'
    exact ⟨u, rfl, go_of (s := { s with heap := h' }) e c d (by decide) ⟨x, H, I1, ru, ⟨rfl, fun ys hy => by rw [I.list_inj hy hq]; exact hx⟩, st', fun b hb => (hf b hb).1⟩⟩
  done := by
    intro X hP hw hK hc i pins s σ H E I hf st hg
    subst hP hw hK
    obtain ⟨xs, hq, hx⟩ := hg
    obtain ⟨its, rv, p, hz⟩ := I.list hq
    obtain ⟨f0, f1, f2, f3, f4, f5⟩ := hf it (by simp)
    have hl := rv.length
    exact wpAny_pyNext_list_end (I.ok.hd hc) st p.isList (by simp; omega) fun h' eb => ⟨rfl, I.turned (t' := s.toks) (fun b o hb e => eb b o hb e) f0 f1 f3 f4 f5⟩
  self := fun _ _ _ _ _ st h => wpAny_pyIter_listiter st h
theorem turn_tuple {P : Program} {w : World} {K : PySem.W.Frag} {tg : Expr} (a it : Addr) : Turn P w K tg (Itt K a) [it] it (fun i h => h.IsTupleIter it a i) where
  mem := by simp
  obj := fun i h st b hb => by
    have e : b = it := by simpa using hb
    subst e
    obtain ⟨o, e, c, d⟩ := st
    exact ⟨o, e, fun v z => by rw [d] at z; cases z⟩
  keep := fun i h h' st k => st.at fun o e => k it (by simp) o e
  item := by
    intro X hP hw hK hc i pins s σ H E I hf st hg
    subst hP hw hK
    obtain ⟨xs, x, hq, hx⟩ := hg
    obtain ⟨its, rv, p, hz⟩ := I.tuple hq
    obtain ⟨u, hu, ru⟩ := rv.get hx
    obtain ⟨f0, f1, f2, f3, f4, f5⟩ := hf it (by simp)
    refine wpAny_pyNext_tuple_item st (show s.heap.IsTuple a its.toArray from p) (x := u) (by simpa using hu) fun h' st' sb => ?_
    have I1 : Inv X pins σ H { s with heap := h' } := I.turned (t' := s.toks) (fun b o hb e => (sb.2 b hb).trans e) f0 f1 f3 f4 f5
    obtain ⟨o, e, c, d⟩ := id st'
    exact ⟨u, rfl, go_of (s := { s with heap := h' }) e c d (by decide) ⟨x, H, I1, ru, ⟨rfl, fun ys hy => by rw [I.tuple_inj hy hq]; exact hx⟩, st', fun b hb => (hf b hb).1⟩⟩
  done := by
    intro X hP hw hK hc i pins s σ H E I hf st hg
    subst hP hw hK
    obtain ⟨xs, hq, hx⟩ := hg
    obtain ⟨its, rv, p, hz⟩ := I.tuple hq
    obtain ⟨f0, f1, f2, f3, f4, f5⟩ := hf it (by simp)
    have hl := rv.length
    exact wpAny_pyNext_tuple_end (I.ok.hd hc) st (show s.heap.IsTuple a its.toArray from p) (by simp; omega) fun h' eb => ⟨rfl, I.turned (t' := s.toks) (fun b o hb e => eb b o hb e) f0 f1 f3 f4 f5⟩
  self := fun _ _ _ _ _ st h => wpAny_pyIter_tupleiter st h
theorem turn_range {P : Program} {w : World} {K : PySem.W.Frag} {tg : Expr} (it : Addr) (lo : Int) (n : Nat) : Turn P w K tg (Itr lo n) [it] it (fun i h => IsRangeIter h it (lo + (i : Nat) * 1) ((n : Int) - (i : Nat)) 1) where
  mem := by simp
  obj := fun i h st b hb => by
    have e : b = it := by simpa using hb
    subst e
    exact ⟨_, st, fun v z => by
      have z' : Data.fields _ = Data.cell v := z
      cases z'⟩
  keep := fun i h h' st k => k it (by simp) _ st
  item := by
    intro X hP hw hK hc i pins s σ H E I hf st hg
    subst hP hw hK
    obtain ⟨f0, f1, f2, f3, f4, f5⟩ := hf it (by simp)
    have W := Walks.range (prog := X.prog) (w := X.w) (I.ok.hd hc) it lo 1 n
    refine W.item i s _ _ hg st fun v h' tk hv st' kk => ?_
    obtain ⟨t, rfl⟩ := hv
    have I1 : Inv X pins σ H { s with heap := h', toks := tk } := I.turned (fun b o hb e => kk b o (by simpa using hb) e) f0 f1 f3 f4 f5
    refine ⟨_, rfl, go_of (s := { s with heap := h', toks := tk }) (n := "range_iterator") st' rfl rfl (by decide) ⟨.int (lo + i), H, I1, ⟨t, ?_⟩, ⟨rfl, rfl⟩, st', fun b hb => (hf b hb).1⟩⟩
    rw [Int.mul_one]
  done := by
    intro X hP hw hK hc i pins s σ H E I hf st hg
    subst hP hw hK
    obtain ⟨f0, f1, f2, f3, f4, f5⟩ := hf it (by simp)
    exact wpAny_pyNext_range_end (I.ok.hd hc) st (by have : n ≤ i := hg; omega) fun h' eb => ⟨rfl, I.turned (t' := s.toks) (fun b o hb e => eb b o hb e) f0 f1 f3 f4 f5⟩
  self := fun _ _ _ _ _ st h => wpAny_pyIter_rangeiter st h
end L2
namespace L2
open PySem PySem.Spec PyProof.Rows
section
variable {X : Cx} {tg : Expr}
theorem range_it {pins : List (Addr × Obj)} {σ : St} {H : Hp} {s : Shared} {R : It → Hp → Prop} {E : Value → Shared → Prop} {lo hi : Int} {t u v : Tok} {tk : Nat} (I : Inv X pins σ H s) (h1 : -(2 ^ 62) ≤ lo) (h2 : lo < 2 ^ 62) (h3 : -(2 ^ 62) ≤ hi) (h4 : hi < 2 ^ 62)
    (q : R (Itr lo (hi - lo).toNat) H) : wpAny (model X.prog X.w) X.A (pyIter (.ref s.heap.objs.size)) (PIE X pins σ tg R) E { s with heap := s.heap.push { cls := .type "range", data := .fields #[.int lo t, .int hi u, .int 1 v] }, toks := tk } := by
  refine wpAny_pyIter_range (IsRange.new ..) (small_one h1 h2 h3 h4) ?_
  have I1 : Inv X pins σ H { s with heap := s.heap.push { cls := .type "range", data := .fields #[.int lo t, .int hi u, .int 1 v] }, toks := tk } := I.kept fun b o e => Heap.get?_push_of_some _ e
  refine ⟨(s.heap.push { cls := .type "range", data := .fields #[.int lo t, .int hi u, .int 1 v] }).objs.size, [(s.heap.push { cls := .type "range", data := .fields #[.int lo t, .int hi u, .int 1 v] }).objs.size], _, _, H, rfl,
    I1.kept (t' := tk) fun b o e => Heap.get?_push_of_some _ e, turn_range _ lo (hi - lo).toNat, ?_, fun b hb => ?_, q⟩
  · have e1 : lo + ((0 : Nat) : Int) * 1 = lo := by simp
    have e2 : (((hi - lo).toNat : Nat) : Int) - ((0 : Nat) : Int) = Builtin.Range.rangeSize lo hi 1 := by rw [rangeSize_one]; split <;> omega
    show IsRangeIter _ _ (lo + ((0 : Nat) : Int) * 1) ((((hi - lo).toNat : Nat) : Int) - ((0 : Nat) : Int)) 1
    rw [e1, e2]
    exact Heap.get?_push_size _ rfl
  · have e : b = (s.heap.push { cls := .type "range", data := .fields #[.int lo t, .int hi u, .int 1 v] }).objs.size := by simpa using hb
    subst e
    exact I1.fpOk (Nat.le_refl _) (I1.hok.fresh (Nat.le_refl _))
def iRng1 (ta : TA) : TI := fun σ H R => ta σ H fun vs H1 => ∃ j : Int, vs = [.int j] ∧ -(2 ^ 62) ≤ j ∧ j < 2 ^ 62 ∧ R (Itr 0 j.toNat) H1
theorem pi_range1 {a : Expr} {ta : TA} {p pos : Pos} (hg : Gl X "range") (hm : X.mg "range" = none) (ha : PA X [a] ta) (hs : starEach [a] X.env = [(false, eval a X.env)] := by rfl) : PI X tg (.Call (.Name "range" p) [a] [] pos) (iRng1 ta) := by
  intro pins s σ H R I h
  refine Call_ (ld_blt I hg hm boot_range (PyProof.Rows.callWith_type1 (thn (ha pos pins s σ H _ I h) fun us s1 ⟨vs, H1, I1, r1, q1⟩ => ?_) hs rfl))
  obtain ⟨j, e, q1, q2, q⟩ := q1
  subst e
  cases r1 with
  | cons r rr =>
    cases rr
    obtain ⟨t, rfl⟩ := r
    exact call_range_1 (range_it I1 (by omega) (by omega) q1 q2 (by simpa using q))
def tFor (wi : TI) (g : TG) (tb : TS) : TS := fun D σ H => wi σ H fun J H1 => ∃ W : Nat → Nat → St → Hp → Prop, (∃ m, W 0 m σ H1) ∧ ∀ i m σ H, W i m σ H →
  (J.stop i H ∧ D.nx σ H) ∨ (J.go i H ∧ ∃ N : St → Hp → Prop, (∀ σ' H', N σ' H' → ∃ m', m' < m ∧ W (i + 1) m' σ' H') ∧ ∀ x H', J.yld i H x H' → g x σ H' fun σ2 H2 => tb { D with nx := N, ct := N, bk := D.nx } σ2 H2)
def pinsAt (fp : List Addr) (h : Heap) : List (Addr × Obj) := fp.filterMap fun b => (h.get? b).map fun o => (b, o)
theorem mem_pinsAt {fp : List Addr} {h : Heap} {b : Addr} {o : Obj} (hb : b ∈ fp) (e : h.get? b = some o) : (b, o) ∈ pinsAt fp h := List.mem_filterMap.mpr ⟨b, hb, by rw [e]; rfl⟩
theorem of_pinsAt {fp : List Addr} {h : Heap} {p : Addr × Obj} (hp : p ∈ pinsAt fp h) : p.1 ∈ fp ∧ h.get? p.1 = some p.2 := by
  obtain ⟨b, hb, e⟩ := List.mem_filterMap.mp hp
  cases q : h.get? b with
  | none => rw [q] at e; cases e
  | some o =>
    rw [q] at e
    have e' : (b, o) = p := Option.some.inj e
    subst e'
    exact ⟨hb, q⟩
theorem Inv.pinned {pins : List (Addr × Obj)} {σ : St} {H : Hp} {s : Shared} {fp : List Addr} (I : Inv X pins σ H s) (hf : ∀ b ∈ fp, FpOk X pins H b) (ho : ∀ b ∈ fp, ∃ o, s.heap.get? b = some o ∧ ∀ v, o.data ≠ .cell v) : Inv X (pins ++ pinsAt fp s.heap) σ H s :=
  I.pins_of fun p hp => (List.mem_append.mp hp).elim (fun z => I.pin p (List.mem_append_right _ z)) fun z => by
    obtain ⟨hb, e⟩ := of_pinsAt z
    obtain ⟨f0, f1, f2, _⟩ := hf p.1 hb
    obtain ⟨o, e', d⟩ := ho p.1 hb
    rw [e] at e'; cases e'
    exact ⟨e, f0, f1, f2, d⟩
theorem Inv.unpinned {pins pl : List (Addr × Obj)} {σ : St} {H : Hp} {s : Shared} (I : Inv X (pins ++ pl) σ H s) : Inv X pins σ H s := I.pins_of fun p hp => I.pin p (List.mem_append_right _ (List.mem_append_left _ hp))
theorem ps_for {iter : Expr} {body : List Stmt} {wi : TI} {g : TG} {tb : TS} {pos : Pos} (hp : PassesOwn (model X.prog X.w) X.A X.env X.xe) (hc : X.calm = true) (hi : PI X tg iter wi) (hg : PG X tg g) (hb : PSs X body tb)
    (hs : ∀ x, foldedSetIterable iter X.env x = pure x := by intro _; rfl) : PS X (.For tg iter body [] pos) (tFor wi g tb) := by
  intro pins s σ H D I h
  refine wpAny_For (thn (hi pins s σ H _ I h) fun v s1 h1 => thn h1 fun itv s2 h2 => ?_) hs
  obtain ⟨it, fp, tn, J, H2, e, I2, T, st2, f2, W, ⟨m0, w0⟩, turn⟩ := h2
  subst e
  have stat : ∀ {H' : Hp}, (∀ b ∈ fp, H' b = none) → ∀ b ∈ fp, FpOk X pins H' b := fun hn b hb => ⟨hn b hb, (f2 b hb).2⟩
  refine codeAny_forLoop_any (fun n s' => ∃ i σ' H', Inv X pins σ' H' s' ∧ tn i s'.heap ∧ (∀ b ∈ fp, H' b = none) ∧ W i n σ' H') ?_ m0 ⟨0, σ, H2, I2, st2, fun b hb => (f2 b hb).1, w0⟩
  rintro n s3 ⟨i, σ3, H3, I3, st3, fr3, w3⟩
  rcases turn i n σ3 H3 w3 with ⟨stop, qn⟩ | ⟨go, N, hN, step⟩
  · refine wpAny_passesOwn hp (thn (T.done X rfl rfl rfl hc i pins s3 σ3 H3 X.xe I3 (stat fr3) st3 stop) fun r s4 ⟨hr, I4⟩ => ?_)
    subst hr
    exact wpAny_execs_nil ⟨σ3, H3, I4, qn⟩
  · refine wpAny_passesOwn hp (thn (T.item X rfl rfl rfl hc i pins s3 σ3 H3 X.xe I3 (stat fr3) st3 go) fun r s4 ⟨u, hr, h4⟩ => ?_)
    subst hr
    refine wpAny_passesOwn hp (thn h4 fun _ s5 ⟨x, H5, I5, r5, y5, st5, fr5⟩ => ?_)
    have I5' := I5.pinned (stat fr5) (T.obj _ _ st5)
    refine wpAny_passesOwn hp (thn (hg _ s5 σ3 H5 x u _ I5' r5 (step x H5 y5)) fun _ s6 ⟨σ6, H6, I6, q6⟩ => ?_)
    refine wpAny_passesOwn hp (thn (hb _ s6 σ6 H6 _ I6 q6) fun f s7 q7 => ?_)
    have again : ∀ {σ7 : St} {H7 : Hp}, Inv X (pins ++ pinsAt fp s5.heap) σ7 H7 s7 → N σ7 H7 → ∃ m, m < n ∧ ∃ i σ' H', Inv X pins σ' H' s7 ∧ tn i s7.heap ∧ (∀ b ∈ fp, H' b = none) ∧ W i m σ' H' := fun {σ7 H7} I7 n7 => by
      obtain ⟨m', hm, w7⟩ := hN σ7 H7 n7
      refine ⟨m', hm, i + 1, σ7, H7, I7.unpinned, T.keep _ _ _ st5 fun b hb o e => (I7.pin (b, o) (List.mem_append_right _ (List.mem_append_right _ (mem_pinsAt hb e)))).1, fun b hb => ?_, w7⟩
      obtain ⟨o, e, d⟩ := T.obj _ _ st5 b hb
      exact (I7.pin (b, o) (List.mem_append_right _ (List.mem_append_right _ (mem_pinsAt hb e)))).2.1
    cases f with
    | next => obtain ⟨σ7, H7, I7, n7⟩ := q7; exact again I7 n7
    | cont => obtain ⟨σ7, H7, I7, n7⟩ := q7; exact again I7 n7
    | brk => obtain ⟨σ7, H7, I7, q7⟩ := q7; exact ⟨σ7, H7, I7.unpinned, q7⟩
    | ret v => obtain ⟨x7, σ7, H7, I7, r7, q7⟩ := q7; exact ⟨x7, σ7, H7, I7.unpinned, r7, q7⟩
end
end L2
namespace L2
open PySem PySem.Spec PyProof.Rows
abbrev R2 := V → V → Hp → VK → Prop
def OpR (X : Cx) (f : Value → Value → Sem Value) (r : R2) : Prop :=
  ∀ (pins : List (Addr × Obj)) (s : Shared) (σ : St) (H : Hp) (x y : V) (v u : Value) (Q : VK), Inv X pins σ H s → RelV x v → RelV y u → r x y H Q →
    wpAny (model X.prog X.w) X.A (f v u) (EP X pins σ Q) X.xe s
def CallR (X : Cx) (f : Value) (r : List V → Hp → VK → Prop) : Prop :=
  ∀ (pins : List (Addr × Obj)) (s : Shared) (σ : St) (H : Hp) (xs : List V) (us : List Value) (Q : VK), Inv X pins σ H s → Vals xs us → r xs H Q →
    wpAny (model X.prog X.w) X.A (call f us) (EP X pins σ Q) X.xe s
def tOp (r : R2) (ta tb : TE) : TE := fun σ H Q => ta σ H fun x H1 => tb σ H1 fun y H2 => r x y H2 Q
def rI (C : Int → Int → Prop) (g : Int → Int → V) : R2 := fun x y H Q => ∃ i j, x = .int i ∧ y = .int j ∧ C i j ∧ Q (g i j) H
def rI0 (g : Int → Int → V) : R2 := fun x y H Q => ∃ i j, x = .int i ∧ y = .int j ∧ Q (g i j) H
section
variable {X : Cx} {a b c : Expr} {ta tb tc : TE} {pos : Pos}
theorem binT (ha : PE X a ta) (hb : PE X b tb) {pins : List (Addr × Obj)} {s : Shared} {σ : St} {H : Hp} {R : V → V → Hp → Prop} (I : Inv X pins σ H s)
    (h : ta σ H fun x H1 => tb σ H1 fun y H2 => R x y H2) {Q : Value → Shared → Prop} {f : Value → Value → Sem Value}
    (hf : ∀ v u s2 x y H2, Inv X pins σ H2 s2 → RelV x v → RelV y u → R x y H2 → wpAny (model X.prog X.w) X.A (f v u) Q X.xe s2) :
    wpAny (model X.prog X.w) X.A (eval a X.env) (fun v s₁ => wpAny (model X.prog X.w) X.A (eval b X.env) (fun u s₂ => wpAny (model X.prog X.w) X.A (f v u) Q X.xe s₂) X.xe s₁) X.xe s := by
  refine thn (ha pins s σ H _ I h) fun v s1 ⟨x, H1, I1, r1, q1⟩ => ?_
  refine thn (hb pins s1 σ H1 _ I1 q1) fun u s2 ⟨y, H2, I2, r2, q2⟩ => ?_
  exact hf v u s2 x y H2 I2 r1 r2 q2
theorem pe_op {op : Operator} {r : R2} (ho : OpR X (binaryOp op) r) (ha : PE X a ta) (hb : PE X b tb) : PE X (.BinOp a op b pos) (tOp r ta tb) := by
  intro pins s σ H Q I h
  exact wpAny_BinOp (binT ha hb I h fun v u s2 x y H2 I2 rx ry q => ho pins s2 σ H2 x y v u Q I2 rx ry q)
theorem opI {f : Value → Value → Sem Value} {C : Int → Int → Prop} {g : Int → Int → Int}
    (rule : ∀ (i j : Int) (t u : Tok) (s : Shared) (Q : Value → Shared → Prop) (E : Value → Shared → Prop), C i j → Q (.int (g i j) s.toks) { s with toks := s.toks + 1 } → wpAny (model X.prog X.w) X.A (f (.int i t) (.int j u)) Q E s) :
    OpR X f (rI C fun i j => .int (g i j)) := by
  intro pins s σ H x y v u Q I rx ry h
  obtain ⟨i, j, rfl, rfl, hc, q⟩ := h
  obtain ⟨t, rfl⟩ := rx
  obtain ⟨t', rfl⟩ := ry
  exact rule i j t t' s _ _ hc ⟨.int (g i j), H, I.tok _, ⟨_, rfl⟩, q⟩
theorem opI0 {f : Value → Value → Sem Value} {g : Int → Int → Int}
    (rule : ∀ (i j : Int) (t u : Tok) (s : Shared) (Q : Value → Shared → Prop) (E : Value → Shared → Prop), Q (.int (g i j) s.toks) { s with toks := s.toks + 1 } → wpAny (model X.prog X.w) X.A (f (.int i t) (.int j u)) Q E s) :
    OpR X f (rI0 fun i j => .int (g i j)) := by
  intro pins s σ H x y v u Q I rx ry h
  obtain ⟨i, j, rfl, rfl, q⟩ := h
  obtain ⟨t, rfl⟩ := rx
  obtain ⟨t', rfl⟩ := ry
  exact rule i j t t' s _ _ ⟨.int (g i j), H, I.tok _, ⟨_, rfl⟩, q⟩
theorem opB0 {f : Value → Value → Sem Value} {g : Int → Int → Bool}
    (rule : ∀ (i j : Int) (t u : Tok) (s : Shared) (Q : Value → Shared → Prop) (E : Value → Shared → Prop), Q (.bool (g i j)) s → wpAny (model X.prog X.w) X.A (f (.int i t) (.int j u)) Q E s) :
    OpR X f (rI0 fun i j => .bl (g i j)) := by
  intro pins s σ H x y v u Q I rx ry h
  obtain ⟨i, j, rfl, rfl, q⟩ := h
  obtain ⟨t, rfl⟩ := rx
  obtain ⟨t', rfl⟩ := ry
  exact rule i j t t' s _ _ ⟨.bl (g i j), H, I, rfl, q⟩
def CDiv (i j : Int) : Prop := 0 < j ∧ j < 1073741824
def CPow (i j : Int) : Prop := 0 ≤ j ∧ j ≤ 1000000 ∧ i.natAbs < 2 ^ 64
def CMul (i j : Int) : Prop := (-(2 ^ 64) < i ∧ i < 2 ^ 64) ∨ (-(2 ^ 64) < j ∧ j < 2 ^ 64)
theorem CMul.ok {i j : Int} (h : CMul i j) : IntMulOk i j := by
  rcases h with ⟨h1, h2⟩ | ⟨h1, h2⟩
  · exact .of_left (intBits_le_64 h1 h2)
  · exact .of_right (intBits_le_64 h1 h2)
theorem two_pow_nn (k : Nat) : (0 : Int) ≤ 2 ^ k := by
  rw [two_pow_cast]
  exact Int.natCast_nonneg _
theorem op_add : OpR X (binaryOp .Add) (rI0 fun i j => .int (i + j)) := opI0 fun _ _ _ _ _ _ _ q => add_int q
theorem op_sub : OpR X (binaryOp .Sub) (rI0 fun i j => .int (i - j)) := opI0 fun _ _ _ _ _ _ _ q => sub_int q
theorem op_mul : OpR X (binaryOp .Mult) (rI CMul fun i j => .int (i * j)) := opI fun _ _ _ _ _ _ _ hc q => mul_int q hc.ok
theorem op_fdiv : OpR X (binaryOp .FloorDiv) (rI CDiv fun i j => .int (i / j)) := opI fun i j _ _ _ _ _ hc q => by
  have h1 : (0 : Int) < j := hc.1
  have h2 : j < 1073741824 := hc.2
  exact floordiv_int (by omega) (by rw [Int.fdiv_eq_ediv_of_nonneg i (by omega)]; exact q) (.inl (PyProof.noPylong_small (by omega)))
theorem op_mod : OpR X (binaryOp .Mod) (rI (fun _ j => 0 < j) fun i j => .int (i % j)) := opI fun i j _ _ _ _ _ hc q => by
  have h1 : (0 : Int) < j := hc
  exact mod_int' (by omega) (by rw [Int.fmod_eq_emod_of_nonneg i (by omega)]; exact q)
theorem op_pow : OpR X (binaryOp .Pow) (rI CPow fun i j => .int (i ^ j.toNat)) := opI fun _ _ _ _ _ _ _ hc q => pow_int_small hc.1 hc.2.1 hc.2.2 q
theorem op_shl : OpR X (binaryOp .LShift) (rI CPow fun i j => .int (i * 2 ^ j.toNat)) := opI fun _ _ _ _ _ _ _ hc q => lshift_int_small hc.1 hc.2.1 hc.2.2 q
theorem op_shr : OpR X (binaryOp .RShift) (rI (fun _ j => 0 ≤ j) fun i j => .int (i / 2 ^ j.toNat)) := opI fun i j _ _ _ _ _ hc q =>
  rshift_int hc (by rw [Int.fdiv_eq_ediv_of_nonneg i (two_pow_nn _)]; exact q)
theorem op_and : OpR X (binaryOp .BitAnd) (rI0 fun i j => .int (Builtin.bitAnd i j)) := opI0 fun _ _ _ _ _ _ _ q => and_int q
theorem op_or : OpR X (binaryOp .BitOr) (rI0 fun i j => .int (Builtin.bitOr i j)) := opI0 fun _ _ _ _ _ _ _ q => or_int q
theorem iop_add : OpR X (inplaceOp .Add) (rI0 fun i j => .int (i + j)) := opI0 fun _ _ _ _ _ _ _ q => iadd_int q
theorem iop_or : OpR X (inplaceOp .BitOr) (rI0 fun i j => .int (Builtin.bitOr i j)) := opI0 fun _ _ _ _ _ _ _ q => ior_int q
end
section
variable {X : Cx} {a b c : Expr} {ta tb tc : TE} {pos : Pos}
theorem fin_bl {pins : List (Addr × Obj)} {σ : St} {H : Hp} {s : Shared} {Q : VK} {k k' : Bool} (I : Inv X pins σ H s) (q : Q (.bl k) H) (e : k = k') : EP X pins σ Q (.bool k') s := by
  subst e
  exact ⟨.bl k, H, I, rfl, q⟩
theorem op_lt : OpR X (compareOp .Lt) (rI0 fun i j => .bl (decide (i < j))) := opB0 fun _ _ _ _ _ _ _ q => lt_int q
theorem op_isN : OpR X (compareOp .Is) (fun x y H Q => y = .non ∧ Q (.bl (decide (x = .non))) H) := by
  intro pins s σ H x y v u Q I rx ry h
  obtain ⟨rfl, q⟩ := h
  cases ry
  refine is_none_gen (fin_bl I q ?_)
  cases x <;> first
    | (cases rx; rfl)
    | (obtain ⟨t, rfl⟩ := rx; rfl)
theorem OpR.or {f : Value → Value → Sem Value} {r r' : R2} (h : OpR X f r) (h' : OpR X f r') : OpR X f (fun x y H Q => r x y H Q ∨ r' x y H Q) := by
  intro pins s σ H x y v u Q I rx ry q
  rcases q with q | q
  · exact h pins s σ H x y v u Q I rx ry q
  · exact h' pins s σ H x y v u Q I rx ry q
theorem nomark (b : Expr) {op : CmpOp} (h : op ≠ .In := by decide) (h2 : op ≠ .NotIn := by decide) : behindInMarks op b = false := by
  have e1 : (op == CmpOp.In) = false := by cases op <;> first | rfl | exact absurd rfl h
  have e2 : (op == CmpOp.NotIn) = false := by cases op <;> first | rfl | exact absurd rfl h2
  cases b <;> simp [behindInMarks, e1, e2]
theorem pe_cmpR {op : CmpOp} {r : R2} (ho : OpR X (compareOp op) r) (ha : PE X a ta) (hb : PE X b tb) (hm : behindInMarks op b = false) : PE X (.Compare a [op] [b] pos) (tOp r ta tb) := by
  intro pins s σ H Q I h
  exact wpAny_Compare1 (binT ha hb I h fun v u s2 x y H2 I2 rx ry q => ho pins s2 σ H2 x y v u Q I2 rx ry q) hm
def tTest (t : TE) : TT := fun σ H Q => t σ H fun x H' => ∃ k, x = .bl k ∧ Q k H'
theorem pt_cmpR {op : CmpOp} {r : R2} (ho : OpR X (compareOp op) r) (ha : PE X a ta) (hb : PE X b tb) (hm : behindInMarks op b = false) : PT X (.Compare a [op] [b] pos) (tTest (tOp r ta tb)) := by
  intro pins s σ H Q I h
  refine wpAny_isTrue_Compare1 (thn (ha pins s σ H _ I h) fun v s1 ⟨x, H1, I1, r1, q1⟩ => thn (hb pins s1 σ H1 _ I1 q1) fun u s2 ⟨y, H2, I2, r2, q2⟩ =>
    thn (ho pins s2 σ H2 x y v u _ I2 r1 r2 q2) fun c s3 ⟨z, H3, I3, r3, k, e, q3⟩ => ?_) hm
  subst e
  cases r3
  exact wpAny_truthy_bool ⟨H3, I3, q3⟩
theorem line63 : (sizeLine : Nat) < 2 ^ 63 := by rw [sizeLine_eq]; decide
theorem op_add_str : OpR X (binaryOp .Add) (fun x y H Q => ∃ i j, x = .str i ∧ y = .str j ∧ i.length + j.length ≤ sizeLine ∧ Q (.str (i ++ j)) H) := by
  intro pins s σ H x y v u Q I rx ry h
  obtain ⟨i, j, rfl, rfl, hz, q⟩ := h
  obtain ⟨t, rfl⟩ := rx
  obtain ⟨t', rfl⟩ := ry
  exact add_str (fun t' tk => ⟨.str (i ++ j), H, I.tok _, ⟨_, rfl⟩, q⟩) hz
theorem vals1 {x : V} {us : List Value} (r : Vals [x] us) : ∃ u, us = [u] ∧ RelV x u := by
  cases r with
  | cons r1 r2 => cases r2; exact ⟨_, rfl, r1⟩
theorem vals2 {x y : V} {us : List Value} (r : Vals [x, y] us) : ∃ u w', us = [u, w'] ∧ RelV x u ∧ RelV y w' := by
  cases r with
  | cons r1 r2 =>
    cases r2 with
    | cons r3 r4 => cases r4; exact ⟨_, _, rfl, r1, r3⟩
end
end L2
namespace L2
open PySem PySem.Spec PyProof.Rows
section
variable {prog : Program} {w : World} {A : Around} {E : Value → Shared → Prop} {s : Shared} {K : PySem.W.Frag} {x dx C f : Addr} {mA : Str → Option Value} {name : Str} {v : Value}
end
theorem RelO.some_of {v : V} {o : Option Value} (r : RelO (some v) o) : ∃ u, o = some u ∧ RelV v u := by
  cases o with
  | none => exact (show False from r).elim
  | some u => exact ⟨u, rfl, r⟩
section
variable {P : Program} {w : World} {H H' : Hp} {h h' : Heap} {a C dx : Addr} {fs fs' : List (Str × V)}
end
structure Cls (K : PySem.W.Frag) (C : Addr) : Prop where
  pg : PySem.W.plainGet K C Str.empty = true
  hd : PySem.W.hasDictIn K C = true
  po : PySem.W.plainOver K C = true
  sa : PySem.W.findIn K (.ref C) "__setattr__" = some (some (.builtin "object.__setattr__"))
theorem Cls.get {K : PySem.W.Frag} {C : Addr} (c : Cls K C) (f : Str) : PySem.W.plainGet K C f = true := c.pg
section
variable {X : Cx} {pins : List (Addr × Obj)} {σ : St} {H : Hp} {s : Shared} {a C dx : Addr} {fs : List (Str × V)} {f : Str} {v : V} {A : Around} {E : Value → Shared → Prop}
end
section
variable {X : Cx} {o e value : Expr} {f : Str} {pos pos' tpos : Pos} {ta tv : TE}
end
section
variable {X : Cx} {pins : List (Addr × Obj)} {σ : St} {H : Hp} {s : Shared} {A : Around} {E : Value → Shared → Prop} {Q : Value → Shared → Prop} {c : Value} {b : Bool}
end
end L2
namespace L2
open PySem PySem.Spec PyProof.Rows
structure Room (k : Nat) (A : Around) : Prop where
  hd : A.handled = none
  dp : A.depth + 3 * k + 5 < recursionLimit
  un : A.units + 16 * k + 200 < cLine
theorem Room.mono {j k : Nat} {A : Around} (r : Room k A) (h : j ≤ k) : Room j A := ⟨r.hd, by have := r.dp; omega, by have := r.un; omega⟩
theorem Room.deeper {k : Nat} {A : Around} (r : Room (k + 1) A) (env : Env) : Room k (A.deeper env) :=
  ⟨r.hd, by have := r.dp; show A.depth + 1 + 3 * k + 5 < _; omega, by have := r.un; show A.units + 3 + 16 * k + 200 < _; omega⟩
theorem Room.in1 {k : Nat} {A : Around} (r : Room (k + 1) A) : Room k A.in1 :=
  ⟨r.hd, by have := r.dp; show A.depth + 3 * k + 5 < _; omega, by have := r.un; show A.units + 1 + 16 * k + 200 < _; omega⟩
theorem Room.depth {k : Nat} {A : Around} (r : Room k A) : A.depth < recursionLimit := by have := r.dp; omega
theorem Room.units {k : Nat} {A : Around} (r : Room k A) : A.units + 64 < cLine := by have := r.un; omega
def tNil : TA := fun _ H Q => Q [] H
def tCons (ta : TE) (tr : TA) : TA := fun σ H Q => ta σ H fun x H1 => tr σ H1 fun xs H2 => Q (x :: xs) H2
section
variable {X : Cx} {e : Expr} {es : List Expr} {te : TE} {t : TA} {pos : Pos}
theorem pa_nil : PA X [] tNil := fun _ _ _ _ H Q I h => Calls.spliced_nil ⟨[], H, I, .nil, h⟩
theorem pa_cons (ha : PE X e te) (hr : PA X es t) (hs : starEach (e :: es) X.env = (false, eval e X.env) :: starEach es X.env := by rfl) : PA X (e :: es) (tCons te t) := by
  intro pos pins s σ H Q I h
  rw [hs]
  show wpAny _ _ (spliced ((false, eval e X.env) :: backTo pos (starEach es X.env))) _ _ s
  refine Calls.spliced_cons (thn (ha pins s σ H _ I h) fun u s1 ⟨x, H1, I1, r1, q1⟩ => ?_)
  exact thn (hr pos pins s1 σ H1 _ I1 q1) fun us s2 ⟨xs, H2, I2, r2, q2⟩ => ⟨x :: xs, H2, I2, .cons r1 r2, q2⟩
def tTup (t : TA) : TE := fun σ H Q => t σ H fun xs H1 => xs.length ≤ sizeLine ∧ ∀ p, H1 p = none → Q (.ref p) (upd H1 p (.tup xs))
def tLst (t : TA) : TE := fun σ H Q => t σ H fun xs H1 => xs.length ≤ sizeLine ∧ ∀ p, H1 p = none → Q (.ref p) (upd H1 p (.lst xs))
theorem pe_tup {x1} (h : PA X es t) : PE X (.Tuple es x1 pos) (tTup t) := by
  intro pins s σ H Q I hq
  refine wpAny_Tuple_spliced (thn (h pos pins s σ H _ I hq) fun us s1 ⟨xs, H1, I1, r, z, q⟩ => ⟨by rw [← r.length]; exact z, ?_⟩)
  have hf : H1 s1.heap.objs.size = none := I1.hok.fresh (Nat.le_refl _)
  refine ⟨.ref s1.heap.objs.size, upd H1 s1.heap.objs.size (.tup xs), I1.laid (t' := s1.toks) (fun b u e => Heap.get?_push_of_some _ e) (Nat.le_refl _) ?_, rfl, q _ hf⟩
  exact ⟨z, us, r, ⟨_, Heap.get?_push_size _ rfl, rfl, _, rfl⟩⟩
theorem pe_lst (h : PA X es t) : PE X (.List es pos) (tLst t) := by
  intro pins s σ H Q I hq
  refine wpAny_List_spliced (thn (h pos pins s σ H _ I hq) fun us s1 ⟨xs, H1, I1, r, z, q⟩ => ⟨by rw [← r.length]; exact z, ?_⟩)
  have hf : H1 s1.heap.objs.size = none := I1.hok.fresh (Nat.le_refl _)
  refine ⟨.ref s1.heap.objs.size, upd H1 s1.heap.objs.size (.lst xs), I1.laid (t' := s1.toks) (fun b u e => Heap.get?_push_of_some _ e) (Nat.le_refl _) ?_, rfl, q _ hf⟩
  exact ⟨z, us, 0, r, Heap.get?_push_size _ rfl⟩
end
abbrev Sp := List V → Hp → VK → XK → Prop
abbrev CXT := List Env → Hp → Shared → XK → Value → Shared → Prop
structure Env0 (P : Program) (w : World) (K : PySem.W.Frag) (mg : Str → Option Value) (base : Heap) (A : Around) (outer : List Env) (s : Shared) (H : Hp) : Prop where
  frames : A.frames = some outer
  mod : Mod K mg base
  bs : ∀ b o, base.get? b = some o → s.heap.get? b = some o ∧ H b = none
  bsz : base.objs.size ≤ s.heap.objs.size
  funs : s.heap.FunFrames base outer
  frf : ∀ b ∈ frs outer, H b = none
  hok : HOk P w H s.heap
  bare : AllBare s.gens
def CE (outer : List Env) (P : Program) (w : World) (H : Hp) (s : Shared) (Q : VK) (u : Value) (s' : Shared) : Prop :=
  ∃ v H', s'.os = s.os ∧ AllBare s'.gens ∧ Un (frs outer) [] H H' s.heap s'.heap ∧ HOk P w H' s'.heap ∧ RelV v u ∧ Q v H'
def CR (CX : CXT) (outer : List Env) (P : Program) (w : World) (H : Hp) (s : Shared) (Q : VK) (E : XK) (r : Result) (s' : Shared) : Prop :=
  match r with
  | .ok (.ret u) => CE outer P w H s Q u s'
  | .ok _ => False
  | .error e => CX outer H s E e s'
structure FnOk (P : Program) (w : World) (K : PySem.W.Frag) (mg : Str → Option Value) (base : Heap) (CX : CXT) (k : Nat) (f : Addr) (fd : FuncData) (ps : List Str) (sp : Sp) : Prop where
  len : ∀ vs H Q E, sp vs H Q E → vs.length = ps.length
  run : ∀ (A : Around) (outer : List Env) (s : Shared) (H : Hp) (args : Args) (us : List Value) (vs : List V) (Q : VK) (E : XK), Room k A → Env0 P w K mg base A outer s H → BindsTo s fd args (ps.zip us) → Vals vs us → sp vs H Q E →
    codeAny (model P w) A (.call (.ref f) args) (CR CX outer P w H s Q E) s
theorem FnOk.mono {P : Program} {w : World} {K : PySem.W.Frag} {mg : Str → Option Value} {base : Heap} {CX : CXT} {j k : Nat} {f : Addr} {fd : FuncData} {ps : List Str} {sp : Sp} (F : FnOk P w K mg base CX j f fd ps sp) (h : j ≤ k) :
    FnOk P w K mg base CX k f fd ps sp := ⟨F.len, fun A outer s H args us vs Q E hr => F.run A outer s H args us vs Q E (hr.mono h)⟩
theorem FnOk.imp {P : Program} {w : World} {K : PySem.W.Frag} {mg : Str → Option Value} {base : Heap} {CX : CXT} {k : Nat} {f : Addr} {fd : FuncData} {ps : List Str} {sp sp' : Sp} (F : FnOk P w K mg base CX k f fd ps sp)
    (h : ∀ vs H Q E, sp' vs H Q E → sp vs H Q E) : FnOk P w K mg base CX k f fd ps sp' :=
  ⟨fun vs H Q E q => F.len vs H Q E (h _ _ _ _ q), fun A outer s H args us vs Q E hr he hb hv hs => F.run A outer s H args us vs Q E hr he hb hv (h _ _ _ _ hs)⟩
theorem Env0.in1 {P : Program} {w : World} {K : PySem.W.Frag} {mg : Str → Option Value} {base : Heap} {A : Around} {outer : List Env} {s : Shared} {H : Hp} (e : Env0 P w K mg base A outer s H) :
    Env0 P w K mg base A.in1 outer s H := ⟨e.frames, e.mod, e.bs, e.bsz, e.funs, e.frf, e.hok, e.bare⟩
section
variable {X : Cx} {pins : List (Addr × Obj)} {σ : St} {H : Hp} {s s' : Shared}
theorem Inv.env0 (I : Inv X pins σ H s) : Env0 X.prog X.w X.K X.mg X.base X.A X.stack s H :=
  ⟨I.ok.frames, I.ok.mod, I.bs, Nat.le_trans I.ok.bsz I.sz, I.stack, I.stkFree, I.hok, I.bare⟩
theorem Inv.after {Q : VK} {u : Value} (I : Inv X pins σ H s) (h : CE X.stack X.prog X.w H s Q u s') : EP X pins σ Q u s' := by
  obtain ⟨v, H', os, bare, un, hok, r, q⟩ := h
  obtain ⟨hh, g, d, t, os'⟩ := s'
  obtain rfl : os' = s.os := os
  exact ⟨v, H', I.call (h' := hh) (g' := g) (d' := d) (t' := t) (ch := []) un hok bare (fun b z => absurd z (by simp)), r, q⟩
end
def tCall (sp : Sp) (dvs : List V) (E : XK) (t : TA) : TE := fun σ H Q => t σ H fun vs H1 => sp (vs ++ dvs) H1 Q E
def Binds (K : PySem.W.Frag) (fd : FuncData) (ps : List Str) (ds : List Value) : Prop :=
  ∀ (s : Shared) (us : List Value), K.In s.heap → (us ++ ds).length = ps.length → BindsTo s fd ⟨us, []⟩ (ps.zip (us ++ ds))
theorem Binds.all {K : PySem.W.Frag} {fd : FuncData} {ps : List Str} (h : ∀ us : List Value, us.length = ps.length → bindArgs fd ⟨us, []⟩ = pure (ps.zip us)) : Binds K fd ps [] := fun s us _ hl => by
  rw [List.append_nil] at hl ⊢
  exact .of_eq (h us hl)
def Passes (CX : CXT) (X : Cx) (E : XK) : Prop := ∀ (pins : List (Addr × Obj)) (σ : St) (H : Hp) (s : Shared) (e : Value) (s' : Shared), Inv X pins σ H s → CX X.stack H s E e s' → X.xe e s'
section
variable {X : Cx} {CX : CXT} {k : Nat} {f C : Addr} {fd : FuncData} {ps : List Str} {sp : Sp} {dvs : List V} {ds : List Value} {E : XK} {x m : Str} {p pos apos : Pos} {e o : Expr} {es : List Expr} {ta : TE} {t : TA}
theorem run_fn {pins : List (Addr × Obj)} {σ : St} {H : Hp} {s : Shared} {Q : VK} {us : List Value} {vs : List V} (F : FnOk X.prog X.w X.K X.mg X.base CX k f fd ps sp) (hr : Room k X.A) (hb : Binds X.K fd ps ds) (hd : Vals dvs ds) (hx : Passes CX X E)
    (I : Inv X pins σ H s) (r : Vals vs us) (h : sp (vs ++ dvs) H Q E) : wpAny (model X.prog X.w) X.A (call (.ref f) us) (EP X pins σ Q) X.xe s := by
  have r2 : Vals (vs ++ dvs) (us ++ ds) := r.append hd
  have hl : (us ++ ds).length = ps.length := by rw [← r2.length]; exact F.len _ _ _ _ h
  refine wpAny_call (codeAny_mono (F.run X.A X.stack s H ⟨us, []⟩ (us ++ ds) (vs ++ dvs) Q E hr I.env0 (hb s us I.kIn hl) r2 h) fun r s' hq => ?_)
  cases r with
  | error e => exact hx pins σ H s e s' I hq
  | ok fl =>
    cases fl with
    | ret u => exact I.after hq
    | next => exact False.elim hq
    | brk => exact False.elim hq
    | cont => exact False.elim hq
theorem pe_call (F : FnOk X.prog X.w X.K X.mg X.base CX k f fd ps sp) (hr : Room k X.A) (hg : Gl X x) (hm : X.mg x = some (.ref f)) (hk : PySem.W.keepIn X.K (.ref f) = true) (hb : Binds X.K fd ps ds) (hd : Vals dvs ds) (hx : Passes CX X E)
    (ha : PA X (e :: es) t) (hdb : (x == ("__debug__" : Str)) = false := by decide) (he : starEach (e :: es) X.env = (false, eval e X.env) :: starEach es X.env := by rfl) (hpl : (backTo pos (starEach es X.env)).any (·.1) = false := by rfl) :
    PE X (.Call (.Name x p) (e :: es) [] pos) (tCall sp dvs E t) := by
  intro pins s σ H Q I h
  refine wpAny_Call_Name_kw (ld_glob I hg hm ?_ hdb)
  refine PySem.W.callWith_K (h₀ := X.base) I.ok.mod.kin hk (thn (ha pos pins s σ H _ I h) fun us s1 ⟨vs, H1, I1, r, q⟩ => ⟨I1.kIn, ?_⟩) he hpl
  exact run_fn F hr hb hd hx I1 r q
end
section
variable {X : Cx} {CX : CXT} {k : Nat} {f C : Addr} {fd : FuncData} {ps ks : List Str} {sp : Sp} {E : XK} {x m : Str} {p pos apos kpos : Pos} {e o : Expr} {es : List Expr} {kws : List Keyword} {te ta : TE} {t tk : TA} {nm : Option Str}
variable {g : List Value → List Value → List Value} {gV : List V → List V → List V}
end
structure FnScope (N P : List Str) (sc : Scope) : Prop where
  kind : sc.kind = .function
  co : sc.isCoroutine = false
  gen : sc.isGenerator = false
  nd : N.Nodup
  pre : N.take P.length = P
  par : ∀ x ∈ P, sc.names.lookup x = some .local ∨ sc.names.lookup x = some .cell
  nofree : ∀ y ∈ sc.names, y.2 ≠ .free
theorem bindL_out {kindOf : Str → Option NameKind} {x : Str} : ∀ {binds : List (Str × Value)} {m : Str → Option Value}, (∀ v, (x, v) ∉ binds) → bindL kindOf binds m x = m x
  | [], _, _ => rfl
  | (n, v) :: r, m, h => by
    unfold bindL
    rw [bindL_out fun w hw => h w (List.mem_cons_of_mem _ hw)]
    split
    · have : x ≠ n := by rintro rfl; exact h v List.mem_cons_self
      simp [this]
    · rfl
theorem bindC_out {kindOf : Str → Option NameKind} {x : Str} : ∀ {binds : List (Str × Value)} {m : Str → Option Value}, (∀ v, (x, v) ∉ binds) → bindC kindOf binds m x = m x
  | [], _, _ => rfl
  | (n, v) :: r, m, h => by
    unfold bindC
    rw [bindC_out fun w hw => h w (List.mem_cons_of_mem _ hw)]
    split
    · rfl
    · have : x ≠ n := by rintro rfl; exact h v List.mem_cons_self
      simp [this]
theorem bindL_get {kindOf : Str → Option NameKind} {x : Str} {v : Value} : ∀ {P : List Str} {vs : List Value} {i : Nat} {m : Str → Option Value}, P.Nodup → P[i]? = some x → vs[i]? = some v → kindOf x = some .local →
    bindL kindOf (P.zip vs) m x = some v
  | [], _, _, _, _, h, _, _ => by simp at h
  | _ :: _, [], _, _, _, _, h, _ => by simp at h
  | p :: P, w :: vs, 0, m, nd, h1, h2, hk => by
    simp at h1 h2; subst h1; subst h2
    show bindL kindOf ((p, w) :: P.zip vs) m p = _
    unfold bindL
    rw [bindL_out fun v hv => (List.nodup_cons.mp nd).1 (List.of_mem_zip hv).1, if_pos hk]
    simp
  | p :: P, w :: vs, i + 1, m, nd, h1, h2, hk => by
    show bindL kindOf ((p, w) :: P.zip vs) m x = _
    unfold bindL
    exact bindL_get (i := i) (List.nodup_cons.mp nd).2 (by simpa using h1) (by simpa using h2) hk
theorem bindC_get {kindOf : Str → Option NameKind} {x : Str} {v : Value} : ∀ {P : List Str} {vs : List Value} {i : Nat} {m : Str → Option Value}, P.Nodup → P[i]? = some x → vs[i]? = some v → kindOf x ≠ some .local →
    bindC kindOf (P.zip vs) m x = some v
  | [], _, _, _, _, h, _, _ => by simp at h
  | _ :: _, [], _, _, _, _, h, _ => by simp at h
  | p :: P, w :: vs, 0, m, nd, h1, h2, hk => by
    simp at h1 h2; subst h1; subst h2
    show bindC kindOf ((p, w) :: P.zip vs) m p = _
    unfold bindC
    rw [bindC_out fun v hv => (List.nodup_cons.mp nd).1 (List.of_mem_zip hv).1, if_neg hk]
    simp
  | p :: P, w :: vs, i + 1, m, nd, h1, h2, hk => by
    show bindC kindOf ((p, w) :: P.zip vs) m x = _
    unfold bindC
    exact bindC_get (i := i) (List.nodup_cons.mp nd).2 (by simpa using h1) (by simpa using h2) hk
def start (N : List Str) (vs : List V) : St := vs.map some ++ List.replicate (N.length - vs.length) none
def cxOf (CX : CXT) (P : Program) (w : World) (K : PySem.W.Frag) (mg : Str → Option Value) (base : Heap) (N : List Str) (qual : Str) (scope : Scope) (f : Addr) (cd : Value) (A : Around) (outer : List Env) (s : Shared) (H : Hp) (E : XK) : Cx where
  prog := P
  w := w
  K := K
  mg := mg
  base := base
  A := A.deeper (envOfC qual scope s.heap.objs.size f cd)
  N := N
  s₀ := s
  H₀ := H
  env := envOfC qual scope s.heap.objs.size f cd
  outer := outer
  stack := envOfC qual scope s.heap.objs.size f cd :: outer
  ex := []
  calm := true
  fn := fun _ => true
  pn := []
  xe := fun e s' => wpAny (model P w) (A.deeper (envOfC qual scope s.heap.objs.size f cd)) (leaving (envOfC qual scope s.heap.objs.size f cd) e) (fun _ s'' => CX outer H s E e s'') (fun e' s'' => CX outer H s E e' s'') s'
theorem cell_has {sc : Scope} {n : Nat} {x : Str} (h : sc.names.lookup x = some .cell) : ∃ c, (cellsFrom n sc.names []).lookup x = some c := by
  have q := PySem.W.cellsFrom_some sc.names n [] (.inl h)
  exact Option.isSome_iff_exists.mp q
theorem inv_start {CX : CXT} {P : Program} {w : World} {K : PySem.W.Frag} {mg : Str → Option Value} {base : Heap} {N ps : List Str} {qual : Str} {scope : Scope} {f : Addr} {cd : Value} {A : Around} {outer : List Env} {s s1 : Shared} {H : Hp} {E : XK} {us : List Value} {vs : List V}
    (S : FnScope N ps scope) (hd : A.handled = none) (e0 : Env0 P w K mg base A outer s H) (hl : vs.length = ps.length) (r : Vals vs us)
    (x : InCallC s s.heap.objs.size (bindL (envOfC qual scope s.heap.objs.size f cd).kindOf (ps.zip us) fun _ => none) (cellsFrom (s.heap.objs.size + 1) scope.names []) (bindC (envOfC qual scope s.heap.objs.size f cd).kindOf (ps.zip us) fun _ => none) s1) :
    Inv (cxOf CX P w K mg base N qual scope f cd A outer s H E) [] (start N vs) H s1 := by
  have hpl : ps.length ≤ N.length := by have := congrArg List.length S.pre; rw [List.length_take] at this; omega
  obtain ⟨h1, tk, rfl, hk⟩ := x.done
  have noA : ∀ b : Addr, b ∉ (cxOf CX P w K mg base N qual scope f cd A outer s H E).ex := fun b z => absurd (show b ∈ ([] : List Addr) from z) (by simp)
  refine ⟨⟨e0.mod, S.kind, rfl, rfl, Nat.le_refl _, fun y z c h1 h2 => ?_, fun y hy => ?_, fun y c _ h => ?_, fun _ => hd, Around.frames_deeper e0.frames, .inr ⟨rfl, rfl⟩, fun b z => absurd z (noA b), e0.bs, e0.bsz, fun b _ _ => noA b, fun b z => absurd z (noA b), e0.funs, e0.frf⟩,
    rfl, e0.bare, Un.kept hk, ⟨_, x.toInCall.ns, fun i y v h1 h2 h3 => ?_⟩, fun y c h => ⟨_, x.cell y c h⟩, e0.hok.fresh (Nat.le_refl _), fun y c h => ?_, fun p hp => absurd (show p ∈ ([] : List (Addr × Obj)) from hp) (by simp), e0.hok.kept hk, ?_⟩
  · exact name_of_addr x.apart (PySem.mem_of_lookup h1) (PySem.mem_of_lookup h2)
  · have hy : scope.names.lookup y = some .cell ∨ scope.names.lookup y = some .free := hy
    rcases hy with hy | hy
    · exact cell_has hy
    · exact absurd rfl (S.nofree _ (PySem.mem_of_lookup hy))
  · exact Nat.le_of_lt (x.above y c (PySem.mem_of_lookup h))
  · have hi : i < vs.length := by
      unfold start at h2
      by_cases hi : i < vs.length
      · exact hi
      · rw [List.getElem?_append_right (by simpa using hi)] at h2
        rw [List.getElem?_replicate] at h2
        split at h2 <;> cases h2
    have ha : vs[i]? = some v := by
      unfold start at h2
      rw [List.getElem?_append_left (by simpa using hi), List.getElem?_map] at h2
      cases e : vs[i]? with
      | none => rw [e] at h2; cases h2
      | some a => rw [e] at h2; cases h2; rfl
    obtain ⟨u, hu, rv⟩ := r.get ha
    have hp : ps[i]? = some y := by
      rw [← S.pre, List.getElem?_take_of_lt (by omega)]; exact h1
    have ndP : ps.Nodup := by rw [← S.pre]; exact S.nd.sublist (List.take_sublist _ _)
    refine ⟨u, rv, ?_⟩
    rcases S.par y (List.mem_of_getElem? hp) with k | k
    · exact .inl ⟨k, bindL_get ndP hp hu k⟩
    · obtain ⟨c, e⟩ := cell_has (n := s.heap.objs.size + 1) k
      refine .inr ⟨.inl k, c, e, ?_⟩
      have q := x.cell y c e
      rw [bindC_get ndP hp hu (by show scope.names.lookup y ≠ _; rw [k]; decide)] at q
      exact q
  · exact e0.hok.fresh (Nat.le_of_lt (x.above y c (PySem.mem_of_lookup h)))
  · unfold start
    show _ = N.length
    rw [List.length_append, List.length_map, List.length_replicate]
    omega
theorem fn_of {CX : CXT} {P : Program} {w : World} {K : PySem.W.Frag} {mg : Str → Option Value} {base : Heap} {k : Nat} {f : Addr} {name qual : Str} {params : Arguments} {body : List Stmt} {scope : Scope} {dV kV doc pm cdv ct oc : Value} {an od : Option Addr}
    {osl : Array (Option Value)} {N ps : List Str} {sp : Sp} (lk : K.lookup f = some ⟨oc, od, .func (PySem.W.fnOf name qual params body scope dV kV doc pm an cdv ct), osl⟩) (hcd : PySem.W.codeIn K cdv qual = true) (S : FnScope N ps scope)
    (len : ∀ vs H Q E, sp vs H Q E → vs.length = ps.length)
    (hbody : ∀ (A : Around) (outer : List Env) (s : Shared) (H : Hp) (vs : List V) (Q : VK) (E : XK), Room k (A.deeper (envOfC qual scope s.heap.objs.size f cdv)) → sp vs H Q E →
      ∃ t, PSs (cxOf CX P w K mg base N qual scope f cdv A outer s H E) body t ∧ t { nx := fun _ H' => Q .non H', rt := Q } (start N vs) H) :
    FnOk P w K mg base CX (k + 1) f (PySem.W.fnOf name qual params body scope dV kV doc pm an cdv ct) ps sp := by
  refine ⟨len, fun A outer s H args us vs Q E hr e0 hb r hsp => ?_⟩
  have hl := len _ _ _ _ hsp
  have KX : K.In s.heap := e0.mod.kin.keeps fun b o e => (e0.bs b o e).1
  have lim : s.heap.NoLimit := e0.mod.nolimit.keeps fun b o e => (e0.bs b o e).1
  have hkind : ∀ y ∈ ps.zip us, scope.names.lookup y.1 = some .local ∨ (scope.names.lookup y.1 = some .cell ∧ ((cellsFrom (s.heap.objs.size + 1) scope.names []).lookup y.1).isSome = true) := fun ⟨n, v⟩ hy => by
    rcases S.par n (List.of_mem_zip hy).1 with q | q
    · exact .inl q
    · exact .inr ⟨q, PySem.W.cellsFrom_some _ _ _ (.inl q)⟩
  refine codeAny_call_function hr.depth (KX _ _ lk) rfl S.co S.gen rfl (PySem.W.codeRec_of KX hcd) (hb _ _ _ _ ?_)
  refine wpAny_newFunctionEnv_cells S.kind hkind fun env he s1 x => ?_
  subst he
  refine ⟨lim.keeps x.toInCall.keep, codeAny_func ?_⟩
  obtain ⟨t, ht, hq⟩ := hbody A outer s H vs Q E (hr.deeper _) hsp
  have I : Inv (cxOf CX P w K mg base N qual scope f cdv A outer s H E) [] (start N vs) H s1 := inv_start S hr.hd e0 hl r x
  refine wpAny_mono (ht [] s1 (start N vs) H _ I hq) (fun fl s' hs => ?_) fun e s' hs => hs
  have fin : ∀ {σ' : St} {H' : Hp} {v : V} {u : Value}, Inv (cxOf CX P w K mg base N qual scope f cdv A outer s H E) [] σ' H' s' → RelV v u → Q v H' → CE outer P w H s Q u s' :=
    fun {σ' H' v u} J rv q => ⟨v, H', J.os, J.bare, J.base, J.hok, rv, q⟩
  cases fl with
  | ret u =>
    obtain ⟨v, σ', H', J, rv, q⟩ := hs
    exact fin J rv q
  | next =>
    obtain ⟨σ', H', J, q⟩ := hs
    exact fin (v := V.non) (u := Value.none) J rfl q
  | brk =>
    obtain ⟨_, _, _, q⟩ := hs
    exact False.elim q
  | cont =>
    obtain ⟨_, _, _, q⟩ := hs
    exact False.elim q
end L2
namespace L2
open PySem PySem.Spec PyProof.Rows
section
variable {X : Cx} {x : Str} {p pos : Pos} {e : Expr} {es : List Expr} {t : TA} {id T : String} {r : List V → Hp → VK → Prop}
def tCB (r : List V → Hp → VK → Prop) (t : TA) : TE := fun σ H Q => t σ H fun vs H1 => r vs H1 Q
theorem pe_callB (hc : CallR X (.builtin id) r) (hg : Gl X x) (hm : X.mg x = none) (hv : bootBuiltins x = some (.builtin id)) (ha : PA X (e :: es) t) (hn : x ≠ "__name__" := by decide) (hdb : (x == ("__debug__" : Str)) = false := by decide)
    (he : starEach (e :: es) X.env = (false, eval e X.env) :: starEach es X.env := by rfl) (hpl : (backTo pos (starEach es X.env)).any (·.1) = false := by rfl) : PE X (.Call (.Name x p) (e :: es) [] pos) (tCB r t) := by
  intro pins s σ H Q I h
  refine wpAny_Call_Name_kw (ld_blt I hg hm hv ?_ hn hdb)
  exact PyProof.Rows.callWith_builtin1 (thn (ha pos pins s σ H _ I h) fun us s1 ⟨vs, H1, I1, r1, q1⟩ => hc pins s1 σ H1 vs us Q I1 r1 q1) he hpl
theorem pe_callTy (hc : CallR X (.type T) r) (hg : Gl X x) (hm : X.mg x = none) (hv : bootBuiltins x = some (.type T)) (ha : PA X (e :: es) t) (hn : x ≠ "__name__" := by decide) (hdb : (x == ("__debug__" : Str)) = false := by decide)
    (he : starEach (e :: es) X.env = (false, eval e X.env) :: starEach es X.env := by rfl) (hpl : (backTo pos (starEach es X.env)).any (·.1) = false := by rfl) : PE X (.Call (.Name x p) (e :: es) [] pos) (tCB r t) := by
  intro pins s σ H Q I h
  refine wpAny_Call_Name_kw (ld_blt I hg hm hv ?_ hn hdb)
  exact PyProof.Rows.callWith_type1 (thn (ha pos pins s σ H _ I h) fun us s1 ⟨vs, H1, I1, r1, q1⟩ => hc pins s1 σ H1 vs us Q I1 r1 q1) he hpl
end
end L2
namespace HT
open PySem PyProof.Rows
section
open PySem.SeqAt
open PySem.AutoSeq1 (wpAny_loadPart')
open PySem.MeetsSeq PySem.MeetsSeq2 PySem.MeetsSeq3
end
section
variable {prog : Program} {w : World} {A : Around} {E : Value → Shared → Prop} {s : Shared}
theorem cat_tup {t b : Addr} {vs ws : List Value} {Q : Value → Shared → Prop} (ht : IsTup s.heap t vs.toArray) (hb : IsTup s.heap b ws.toArray) (hv : vs ≠ [])
    (h1 : ws = [] → Q (.ref t) s) (h2 : ws ≠ [] → Q (.ref s.heap.objs.size) { s with heap := s.heap.push { cls := .type "tuple", data := .seq (vs ++ ws).toArray } })
    (hsz : vs.length + ws.length ≤ sizeLine) : wpAny (model prog w) A (binaryOp .Add (.ref t) (.ref b)) Q E s := by
  obtain ⟨⟨cls, dd, data, sl⟩, ho, hc, n, hd⟩ := id ht
  obtain ⟨⟨cls2, dd2, data2, sl2⟩, ho2, hc2, n2, hd2⟩ := id hb
  simp only at hc hd hc2 hd2
  subst hc hd hc2 hd2
  have e : vs.toArray ++ ws.toArray = (vs ++ ws).toArray := by simp
  by_cases hw : ws = []
  · exact concat_meets ⟨_, ho, rfl⟩ ⟨_, ho2, rfl⟩ noFill_tuple_add seq_tuple_add PySem.F.slot_tuple_add PySem.F.entry_tuple_add (PySem.F.args_tuple_add_2 _ _)
      (tuple_addW1 t b vs.toArray ws.toArray n n2 dd dd2 sl sl2 (by simpa using hv) (by simp [hw])) ⟨ho, ho2, h1 hw⟩
  · refine concat_meets ⟨_, ho, rfl⟩ ⟨_, ho2, rfl⟩ noFill_tuple_add seq_tuple_add PySem.F.slot_tuple_add PySem.F.entry_tuple_add (PySem.F.args_tuple_add_2 _ _)
      (tuple_addW2 t b vs.toArray ws.toArray n n2 dd dd2 sl sl2 (by simpa using hv) (by simpa using hw) (by rw [List.size_toArray, List.size_toArray]; exact hsz)) ⟨ho, ho2, ?_⟩
    rw [e]
    exact h2 hw
def sIx (n d : Nat) : Option Int → Nat
  | none => d
  | some v => if v < 0 then (v + (n : Int)).toNat else min v.toNat n
theorem sIx_le (n d : Nat) (hd : d ≤ n) (o : Option Int) : sIx n d o ≤ n := by
  cases o with
  | none => exact hd
  | some v =>
    show (if v < 0 then (v + (n : Int)).toNat else min v.toNat n) ≤ n
    by_cases hv : v < 0
    · rw [if_pos hv]; omega
    · rw [if_neg hv]; exact Nat.min_le_right _ _
theorem clip_eq (v : Int) (n d : Nat) : (if v < 0 then max (v + (n : Int)) 0 else min v (n : Int)) = ((sIx n d (some v) : Nat) : Int) := by
  show (if v < 0 then max (v + (n : Int)) 0 else min v (n : Int)) = (((if v < 0 then (v + (n : Int)).toNat else min v.toNat n) : Nat) : Int)
  by_cases hv : v < 0
  · simp only [if_pos hv]; omega
  · simp only [if_neg hv]; omega
theorem adjust_gen (lo hi : Option Int) (n : Nat) : Builtin.Slice.sliceAdjust lo hi 1 (n : Int) = (((sIx n 0 lo : Nat) : Int), ((sIx n n hi : Nat) : Int)) := by
  have h1 : ¬ ((1 : Int) < 0) := by omega
  unfold Builtin.Slice.sliceAdjust
  simp only [h1, if_false]
  refine Prod.ext ?_ ?_
  · cases lo with
    | none => rfl
    | some v => exact clip_eq v n 0
  · cases hi with
    | none => rfl
    | some v => exact clip_eq v n n
theorem places_gen (i j : Nat) : Builtin.Slice.slicePlaces (i : Int) (j : Int) 1 = j - i := by
  unfold Builtin.Slice.slicePlaces
  have h1 : (1 : Int) > 0 := by omega
  simp only [h1, if_true, Int.ediv_one]
  split <;> omega
theorem slicePart_ {v : Value} {o : Option Int} {Q : Option Int → Shared → Prop} (p : IsPart v o) (h : Q o s) : wpAny (model prog w) A (Builtin.Slice.slicePartIndex v) Q E s := by
  cases p with
  | none => exact slicePart_none h
  | int i t => exact slicePart_int h
theorem sliceApplied_gen {sl : Addr} {vl vu : Value} {lo hi : Option Int} {n : Nat} {Q : Int × Int × Nat → Shared → Prop} (hs : s.heap.IsSliceOf sl vl vu .none) (pl : IsPart vl lo) (pu : IsPart vu hi)
    (h : Q (((sIx n 0 lo : Nat) : Int), 1, sIx n n hi - sIx n 0 lo) s) : wpAny (model prog w) A (Builtin.Slice.sliceApplied (.ref sl) (pure (n : Int))) Q E s := by
  obtain ⟨os, hos, hcs, hds⟩ := id hs
  unfold Builtin.Slice.sliceApplied Builtin.Slice.sliceFields
  refine wpAny_bind (wpAny_bind (wpAny_field hos hds (x := vl) rfl (wpAny_bind (wpAny_field hos hds (x := vu) rfl (wpAny_bind (wpAny_field hos hds (x := .none) rfl (wpAny_pure ?_)))))))
  refine wpAny_bind (slicePart_none ?_)
  show wpAny _ _ (if ((1 : Int) == 0) = true then _ else _) _ _ s
  rw [if_neg (by decide)]
  refine wpAny_bind (slicePart_ pl (wpAny_bind (slicePart_ pu (wpAny_bind (wpAny_pure ?_)))))
  show wpAny _ _ (match Builtin.Slice.sliceAdjust lo hi 1 (n : Int) with | (lo, hi) => pure (lo, (1 : Int), Builtin.Slice.slicePlaces lo hi 1)) _ _ s
  rw [adjust_gen lo hi n]
  show wpAny _ _ (pure (((sIx n 0 lo : Nat) : Int), (1 : Int), Builtin.Slice.slicePlaces ((sIx n 0 lo : Nat) : Int) ((sIx n n hi : Nat) : Int) 1)) _ _ s
  rw [places_gen]
  exact wpAny_pure h
theorem pick_gen (xs : Array Value) (i k : Nat) : ((List.range k).filterMap fun (m : Nat) => xs[((i : Int) + (m : Int) * 1).toNat]?).toArray = ((xs.toList.drop i).take k).toArray := by
  have e : (fun (m : Nat) => xs[((i : Int) + (m : Int) * 1).toNat]?) = fun m => xs[i + m]? := by
    funext m
    have : ((i : Int) + (m : Int) * 1).toNat = i + m := by omega
    rw [this]
  rw [e]
  have := pick_run xs i k
  rw [List.filterMap_map] at this
  have e2 : ((fun x => xs[x]?) ∘ fun x => i + x) = fun m => xs[i + m]? := rfl
  rw [e2] at this
  rw [this]
theorem getItem_tuple_cut {t sl : Addr} {items : Array Value} {vl vu : Value} {lo hi : Option Int} {Q : Value → Shared → Prop} (ht : IsTup s.heap t items) (hs : s.heap.IsSliceOf sl vl vu .none) (pl : IsPart vl lo) (pu : IsPart vu hi)
    (hw : ¬ (sIx items.size 0 lo = 0 ∧ sIx items.size items.size hi = items.size))
    (h : Q (.ref s.heap.objs.size) { s with heap := s.heap.push { cls := .type "tuple", data := .seq ((items.toList.drop (sIx items.size 0 lo)).take (sIx items.size items.size hi - sIx items.size 0 lo)).toArray } })
    (hsz : items.size ≤ sizeLine) : wpAny (model prog w) A (getItem (.ref t) (.ref sl)) Q E s := by
  have htake : sizeOk (.seq ((items.toList.drop (sIx items.size 0 lo)).take (sIx items.size items.size hi - sIx items.size 0 lo)).toArray) := by
    show ((items.toList.drop (sIx items.size 0 lo)).take (sIx items.size items.size hi - sIx items.size 0 lo)).toArray.size ≤ sizeLine
    rw [List.size_toArray, List.length_take, List.length_drop, Array.length_toList]
    omega
  have hj : sIx items.size items.size hi ≤ items.size := sIx_le _ _ (Nat.le_refl _) hi
  obtain ⟨os, hos, hcs, hds⟩ := id hs
  have hTs : s.TypeIs (.ref sl) "slice" := ⟨os, hos, hcs⟩
  unfold getItem
  try with_reducible refine wpAny_holding ?_
  first | refine wpAny_bind (wpAny_pure ?_) | skip
  refine wpAny_bind (wpAny_sequenceKey ht.typeIs (by decide) ?_)
  refine wpAny_bind (wpAny_callSpecial?_slot (name := Str.ofString "__getitem__") ht.typeIs PyProof.Rows.slot_tuple_getitem
    (wpAny_call_entry PyProof.Rows.slot_tuple_getitem ht.typeIs entry_tuple_getitem ?_ (args_tuple_getitem _ _)))
  show wpAny _ _ (Builtin.Tuple.tupleItemsOf (.ref t) >>= _) _ _ s
  refine wpAny_bind (tupleItemsOf_ ht ?_)
  refine wpAny_bind (wpAny_typeOf hTs ?_)
  rw [if_pos (by decide)]
  refine wpAny_bind (sliceApplied_gen hs pl pu ?_)
  have hno : ¬ ((((sIx items.size 0 lo : Nat) : Int) == 0 && (1 : Int) == 1 && (sIx items.size items.size hi - sIx items.size 0 lo) == items.size) = true) := by
    intro q
    rw [Bool.and_eq_true, Bool.and_eq_true] at q
    have q1 : ((sIx items.size 0 lo : Nat) : Int) = 0 := eq_of_beq q.1.1
    have q2 : sIx items.size items.size hi - sIx items.size 0 lo = items.size := eq_of_beq q.2
    exact hw ⟨by omega, by omega⟩
  show wpAny _ _ (if (((sIx items.size 0 lo : Nat) : Int) == 0 && (1 : Int) == 1 && (sIx items.size items.size hi - sIx items.size 0 lo) == items.size) = true then _ else _) _ _ s
  rw [if_neg hno, pick_gen]
  first
    | exact wpAny_bind (m := Builtin.Tuple.tupleExact _) (wpAny_newObj_type (wpAny_pure ⟨_, rfl, wpAny_pure h⟩) htake)
    | exact wpAny_bind (m := Builtin.Tuple.tupleExact _) (wpAny_newObj_type (wpAny_bind (wpAny_pure (wpAny_pure ⟨_, rfl, wpAny_pure h⟩))) htake)
    | exact wpAny_bind (wpAny_bind (m := Builtin.Tuple.tupleExact _) (wpAny_newObj_type (wpAny_pure (wpAny_pure ⟨_, rfl, wpAny_pure h⟩)) htake))
    | exact wpAny_bind (wpAny_bind (m := Builtin.Tuple.tupleExact _) (wpAny_newObj_type (wpAny_pure ⟨_, rfl, wpAny_pure h⟩) htake))
end
end HT
namespace L2
open PySem PySem.Spec PyProof.Rows
abbrev TO := St → Hp → (Option Int → Hp → Prop) → Prop
def PO (X : Cx) (e : Option Expr) (t : TO) : Prop :=
  ∀ (pins : List (Addr × Obj)) (s : Shared) (σ : St) (H : Hp) (Q : Option Int → Hp → Prop), Inv X pins σ H s → t σ H Q →
    wpAny (model X.prog X.w) X.A (evalPart e X.env) (fun u s' => ∃ o H', Inv X pins σ H' s' ∧ IsPart u o ∧ Q o H') X.xe s
def tNoPart : TO := fun _ H Q => Q none H
def tPart (t : TE) : TO := fun σ H Q => t σ H fun x H1 => ∃ i, x = .int i ∧ Q (some i) H1
section
variable {X : Cx} {e : Expr} {te : TE} {lo hi : Option Expr} {tl th : TO} {pos p2 : Pos}
theorem po_none : PO X none tNoPart := by
  intro pins s σ H Q I h
  rw [evalPart_none]
  exact wpAny_pure ⟨none, H, I, .none, h⟩
theorem po_some (h : PE X e te) : PO X (some e) (tPart te) := by
  intro pins s σ H Q I hw
  rw [evalPart_some]
  refine thn (h pins s σ H _ I hw) fun u s1 ⟨x, H1, I1, r1, q1⟩ => ?_
  obtain ⟨i, rfl, q⟩ := q1
  obtain ⟨t, rfl⟩ := r1
  exact ⟨some i, H1, I1, .int i t, q⟩
def SlR (X : Cx) (r : V → Option Int → Option Int → Hp → VK → Prop) : Prop :=
  ∀ (pins : List (Addr × Obj)) (s : Shared) (σ : St) (H : Hp) (x : V) (v vl vu : Value) (lo hi : Option Int) (sl : Addr) (Q : VK), Inv X pins σ H s → RelV x v → s.heap.IsSliceOf sl vl vu .none → IsPart vl lo → IsPart vu hi → r x lo hi H Q →
    ∃ T id, typeLookup (.type T) "__getitem__" = pure (some (.builtin id)) ∧ s.TypeIs v T ∧ wpAny (model X.prog X.w) X.A (getItem v (.ref sl)) (EP X pins σ Q) X.xe s
theorem SlR.or {r r' : V → Option Int → Option Int → Hp → VK → Prop} (h : SlR X r) (h' : SlR X r') : SlR X (fun x lo hi H Q => r x lo hi H Q ∨ r' x lo hi H Q) := by
  intro pins s σ H x v vl vu lo hi sl Q I rx hs pl pu q
  rcases q with q | q
  · exact h pins s σ H x v vl vu lo hi sl Q I rx hs pl pu q
  · exact h' pins s σ H x v vl vu lo hi sl Q I rx hs pl pu q
def tSl (r : V → Option Int → Option Int → Hp → VK → Prop) (te : TE) (tl th : TO) : TE := fun σ H Q => te σ H fun x H1 => tl σ H1 fun l H2 => th σ H2 fun u H3 => r x l u H3 Q
theorem pe_slice {r : V → Option Int → Option Int → Hp → VK → Prop} (hr : SlR X r) (he : PE X e te) (hl : PO X lo tl) (hu : PO X hi th) : PE X (.Subscript e (.Slice lo hi none p2) pos) (tSl r te tl th) := by
  intro pins s σ H Q I h
  refine Subscript_ (thn (he pins s σ H _ I h) fun v s1 ⟨x, H1, I1, r1, q1⟩ => ?_)
  refine wpAny_Slice (thn (hl pins s1 σ H1 _ I1 q1) fun vl s2 ⟨l, H2, I2, pl, q2⟩ => thn (hu pins s2 σ H2 _ I2 q2) fun vu s3 ⟨u, H3, I3, pu, q3⟩ => ?_)
  rw [evalPart_none]
  refine wpAny_pure ?_
  have I4 : Inv X pins σ H3 { s3 with heap := s3.heap.push { cls := .type "slice", data := .fields #[vl, vu, .none] } } := I3.kept (t' := s3.toks) fun b ob q => Heap.get?_push_of_some _ q
  obtain ⟨T, id, hT, ht, hg⟩ := hr pins { s3 with heap := s3.heap.push { cls := .type "slice", data := .fields #[vl, vu, .none] } } σ H3 x v vl vu l u s3.heap.objs.size Q I4 r1 (Heap.IsSliceOf.new ..) pl pu q3
  show wpAny (model X.prog X.w) X.A (subscriptTail e (.Slice lo hi none p2) v (.ref s3.heap.objs.size)) (EP X pins σ Q) X.xe { s3 with heap := s3.heap.push { cls := .type "slice", data := .fields #[vl, vu, .none] } }
  exact tail_any (ops := [.ref s3.heap.objs.size, v]) ht hT hg (by with_unfolding_all rfl)
def cutV (xs : List V) (lo hi : Option Int) : List V := (xs.drop (HT.sIx xs.length 0 lo)).take (HT.sIx xs.length xs.length hi - HT.sIx xs.length 0 lo)
theorem cutV_length (xs : List V) (lo hi : Option Int) : (cutV xs lo hi).length ≤ xs.length := by
  unfold cutV
  rw [List.length_take, List.length_drop]
  omega
def rSlT (K : PySem.W.Frag) : V → Option Int → Option Int → Hp → VK → Prop := fun x lo hi H Q => ∃ a xs, x = .ref a ∧ SqT K H a xs ∧
  ¬ (HT.sIx xs.length 0 lo = 0 ∧ HT.sIx xs.length xs.length hi = xs.length) ∧ ∀ p, H p = none → Q (.ref p) (upd H p (.tup (cutV xs lo hi)))
theorem sl_tup : SlR X (rSlT X.K) := by
  intro pins s σ H x v vl vu lo hi sl Q I rx hs pl pu h
  obtain ⟨a, xs, rfl, hx, hw, q⟩ := h
  cases rx
  obtain ⟨its, r, ht, hz⟩ := I.tuple hx
  have hlen : its.toArray.size = xs.length := by rw [List.size_toArray]; exact r.length.symm
  refine ⟨"tuple", _, PyProof.Rows.slot_tuple_getitem.lookup, ht.typeIs, ?_⟩
  refine HT.getItem_tuple_cut ht hs pl pu (by rw [hlen]; exact hw) ?_ (by rw [hlen]; exact hz)
  rw [hlen]
  refine ⟨.ref s.heap.objs.size, _, I.laid (t' := s.toks) (o := .tup (cutV xs lo hi)) (fun b ob q => Heap.get?_push_of_some _ q) (Nat.le_refl _) ?_, rfl, q _ (I.hok.fresh (Nat.le_refl _))⟩
  exact ⟨Nat.le_trans (cutV_length xs lo hi) hz, _, (r.drop (HT.sIx xs.length 0 lo)).take (HT.sIx xs.length xs.length hi - HT.sIx xs.length 0 lo), IsTup.new _ _⟩
theorem Vals.nil_iff {xs : List V} {us : List Value} (r : Vals xs us) : us = [] ↔ xs = [] := by
  cases r with
  | nil => simp
  | cons _ _ => simp
end
end L2
namespace L2
open PySem PySem.Spec PyProof.Rows
def ixN (n : Nat) (i : Int) : Option Nat := if 0 ≤ i then (if i < n then some i.toNat else none) else if -(n : Int) ≤ i then some (i + n).toNat else none
def atI {α : Type} (xs : List α) (i : Int) : Option α := (ixN xs.length i).bind fun j => xs[j]?
theorem ixN_seq {n : Nat} {i : Int} {j : Nat} (h : ixN n i = some j) : seqIndex? i n = some j ∧ j < n ∧ -(n : Int) ≤ i ∧ i < n := by
  unfold ixN at h
  by_cases h0 : 0 ≤ i
  · rw [if_pos h0] at h
    by_cases h1 : i < n
    · rw [if_pos h1] at h
      have e : i.toNat = j := Option.some.inj h
      exact ⟨by rw [seqIndex_of h0 h1, e], by omega, by omega, h1⟩
    · rw [if_neg h1] at h; cases h
  · rw [if_neg h0] at h
    by_cases h1 : -(n : Int) ≤ i
    · rw [if_pos h1] at h
      have e : (i + n).toNat = j := Option.some.inj h
      exact ⟨by rw [seqIndex_neg (by omega) h1, e], by omega, h1, by omega⟩
    · rw [if_neg h1] at h; cases h
theorem atI_get {α : Type} {xs : List α} {i : Int} {v : α} (h : atI xs i = some v) : ∃ j, seqIndex? i xs.length = some j ∧ xs[j]? = some v ∧ j < xs.length ∧ -(xs.length : Int) ≤ i ∧ i < xs.length := by
  unfold atI at h
  cases e : ixN xs.length i with
  | none => rw [e] at h; cases h
  | some j =>
    rw [e] at h
    obtain ⟨h1, h2, h3, h4⟩ := ixN_seq e
    exact ⟨j, h1, h, h2, h3, h4⟩
theorem atI_nat {α : Type} {xs : List α} {j : Nat} {v : α} (h : xs[j]? = some v) : atI xs (j : Int) = some v := by
  have hj : j < xs.length := (List.getElem?_eq_some_iff.mp h).1
  have e : ixN xs.length (j : Int) = some j := by
    unfold ixN
    rw [if_pos (by omega), if_pos (by omega)]; simp
  unfold atI; rw [e]; exact h
def PlainIx (b : Expr) : Prop := ∀ o i, subscripted b false o i = operate [o, i] (getItem o i)
def IxR (X : Cx) (r : R2) : Prop :=
  ∀ (value slice : Expr) (pins : List (Addr × Obj)) (s : Shared) (σ : St) (H : Hp) (x y : V) (v u : Value) (Q : VK), Inv X pins σ H s → RelV x v → RelV y u → r x y H Q →
    subscripted slice false v u = operate [v, u] (getItem v u) → wpAny (model X.prog X.w) X.A (subscriptTail value slice v u) (EP X pins σ Q) X.xe s
def MtR (X : Cx) (id : String) (r : V → List V → Hp → VK → Prop) : Prop :=
  ∀ (pins : List (Addr × Obj)) (s : Shared) (σ : St) (H : Hp) (x : V) (xs : List V) (v : Value) (us : List Value) (Q : VK), Inv X pins σ H s → RelV x v → Vals xs us → r x xs H Q →
    wpAny (model X.prog X.w) X.A (call (.builtin id) (v :: us)) (EP X pins σ Q) X.xe s
section
variable {X : Cx} {a b : Expr} {ta tb : TE} {pos : Pos}
theorem IxR.or {r r' : R2} (h : IxR X r) (h' : IxR X r') : IxR X (fun x y H Q => r x y H Q ∨ r' x y H Q) := by
  intro value slice pins s σ H x y v u Q I rx ry q hs
  rcases q with q | q
  · exact h value slice pins s σ H x y v u Q I rx ry q hs
  · exact h' value slice pins s σ H x y v u Q I rx ry q hs
theorem MtR.or {id : String} {r r' : V → List V → Hp → VK → Prop} (h : MtR X id r) (h' : MtR X id r') : MtR X id (fun x xs H Q => r x xs H Q ∨ r' x xs H Q) := by
  intro pins s σ H x xs v us Q I rx rs q
  rcases q with q | q
  · exact h pins s σ H x xs v us Q I rx rs q
  · exact h' pins s σ H x xs v us Q I rx rs q
theorem pe_ix {r : R2} (hr : IxR X r) (ha : PE X a ta) (hb : PE X b tb) (hs : PlainIx b) : PE X (.Subscript a b pos) (tOp r ta tb) := by
  intro pins s σ H Q I h
  exact Subscript_ (binT ha hb I h fun v u s2 x y H2 I2 rx ry q => hr a b pins s2 σ H2 x y v u Q I2 rx ry q (hs _ _))
def rIxL (K : PySem.W.Frag) : R2 := fun x y H Q => ∃ p xs i v, x = .ref p ∧ y = .int i ∧ SqL K H p xs ∧ atI xs i = some v ∧ Q v H
def rIxT (K : PySem.W.Frag) : R2 := fun x y H Q => ∃ p xs i v, x = .ref p ∧ y = .int i ∧ SqT K H p xs ∧ atI xs i = some v ∧ Q v H
def rIxS : R2 := fun x y H Q => ∃ z i c, x = .str z ∧ y = .int i ∧ z.length ≤ sizeLine ∧ atI z.cps.toList i = some c ∧ Q (.str ⟨#[c]⟩) H
theorem ix_list : IxR X (rIxL X.K) := by
  intro value slice pins s σ H x y v u Q I rx ry h hs
  obtain ⟨p, xs, i, z, rfl, rfl, hq, he, q⟩ := h
  cases rx
  obtain ⟨t, rfl⟩ := ry
  obtain ⟨its, r, pl, hz⟩ := I.list hq
  obtain ⟨j, h1, h2, h3, h4, h5⟩ := atI_get he
  obtain ⟨w, ew, rw'⟩ := r.get h2
  have hl := r.length
  have hn := line63
  have fin : EP X pins σ Q w s := ⟨z, H, I, rw', q⟩
  by_cases h0 : 0 ≤ i
  · have hj : i.toNat = j := by
      rw [seqIndex_of h0 h5] at h1
      exact Option.some.inj h1
    exact item_listR pl.isList h0 (by omega) (by rw [hj]; simpa using ew) fin hs
  · have hj : (i + (its.toArray.size : Int)).toNat = j := by
      rw [seqIndex_neg (by omega) h4] at h1
      rw [List.size_toArray, ← hl]
      exact Option.some.inj h1
    exact subscriptTail_builtinR (x := w) pl.isList.typeIs slot_list_getitem.lookup
      (wpAny_getItem_list_neg (Q := fun r s' => r = w ∧ EP X pins σ Q r s') pl.isList (by omega) (by rw [List.size_toArray] <;> omega) (by omega) (by rw [hj]; simpa using ew) ⟨rfl, fin⟩) hs
theorem ix_tup : IxR X (rIxT X.K) := by
  intro value slice pins s σ H x y v u Q I rx ry h hs
  obtain ⟨p, xs, i, z, rfl, rfl, hq, he, q⟩ := h
  cases rx
  obtain ⟨t, rfl⟩ := ry
  obtain ⟨its, r, pl, hz⟩ := I.tuple hq
  obtain ⟨j, h1, h2, h3, h4, h5⟩ := atI_get he
  obtain ⟨w, ew, rw'⟩ := r.get h2
  have hl := r.length
  have hn := line63
  have fin : EP X pins σ Q w s := ⟨z, H, I, rw', q⟩
  exact subscriptTail_builtinR (x := w) pl.typeIs slot_tuple_getitem.lookup
    (getItem_tuple (j := j) (Q := fun r s' => r = w ∧ EP X pins σ Q r s') pl (by omega) (by omega) (by rw [List.size_toArray, ← hl]; exact h1) (by simpa using ew) ⟨rfl, fin⟩) hs
theorem ix_str : IxR X rIxS := by
  intro value slice pins s σ H x y v u Q I rx ry h hs
  obtain ⟨z, i, c, rfl, rfl, hz, he, q⟩ := h
  obtain ⟨t, rfl⟩ := rx
  obtain ⟨t', rfl⟩ := ry
  obtain ⟨j, h1, h2, h3, h4, h5⟩ := atI_get he
  have hl : z.cps.toList.length = z.length := by simp [Str.length]
  rw [hl] at h1 h4 h5
  have hn := line63
  exact tail_any (typeIs_str s z t) slot_str_getitem.lookup (getItem_str (c := c) (by
    have e1 : decide (i < -(2 ^ 63 : Int)) = false := decide_eq_false (by omega)
    have e2 : decide (i ≥ 2 ^ 63) = false := decide_eq_false (by omega)
    rw [e1, e2, Bool.or_false]) (by rw [h1]; simpa using h2) ⟨.str ⟨#[c]⟩, H, I.tok _, ⟨_, rfl⟩, q⟩) hs
def rIx (K : PySem.W.Frag) : R2 := fun x y H Q => rIxL K x y H Q ∨ rIxT K x y H Q ∨ rIxS x y H Q
theorem ix_seq : IxR X (rIx X.K) := ix_list.or (ix_tup.or ix_str)
theorem mapSeq_set (its : List Value) (n j : Nat) (u : Value) : Obj.mapSeq (·.setIfInBounds j u) { cls := .type "list", data := .seq its.toArray n } = { cls := .type "list", data := .seq (its.set j u).toArray n } := by
  simp [Obj.mapSeq]
theorem Inv.lst {pins : List (Addr × Obj)} {σ : St} {H : Hp} {s : Shared} {p : Addr} {xs : List V} (I : Inv X pins σ H s) (h : H p = some (.lst xs)) :
    ∃ (its : List Value) (n : Nat), Vals xs its ∧ s.heap.get? p = some { cls := .type "list", data := .seq its.toArray n } ∧ xs.length ≤ sizeLine := by
  obtain ⟨z, its, n, r, e⟩ := I.hok p _ h
  exact ⟨its, n, r, e, z⟩
theorem Inv.lstUpd {pins : List (Addr × Obj)} {σ : St} {H : Hp} {s : Shared} {p : Addr} {xs ys : List V} {its its' : List Value} {n n' : Nat} {f : Obj → Obj} (I : Inv X pins σ H s) (h : H p = some (.lst xs))
    (ho : s.heap.get? p = some { cls := .type "list", data := .seq its.toArray n }) (hf : f { cls := .type "list", data := .seq its.toArray n } = { cls := .type "list", data := .seq its'.toArray n' }) (r : Vals ys its') (hz : ys.length ≤ sizeLine) (t : Nat) :
    Inv X pins σ (upd H p (.lst ys)) { s with heap := s.heap.update p f, toks := t } := by
  have e : (s.heap.update p f).get? p = some { cls := .type "list", data := .seq its'.toArray n' } := by
    rw [Heap.get?_update_self f ho (by rw [hf] <;> rfl), hf]
  refine I.write (x := p) (e := p) (by rw [h]; trivial) (.inl rfl) (fun b u hb q => (Heap.get?_update_other _ _ (Ne.symm hb)).trans q) ⟨_, e⟩ ?_
  exact ⟨hz, its', n', r, e⟩
def rSetL : V → V → V → Hp → (Hp → Prop) → Prop := fun o i v H Q => ∃ p xs k j, o = .ref p ∧ i = .int k ∧ H p = some (.lst xs) ∧ ixN xs.length k = some j ∧ Q (upd H p (.lst (xs.set j v)))
theorem set_list : PSet X rSetL := by
  intro pins s σ H o i v ov iv u Q I ro ri rv h
  obtain ⟨p, xs, k, j, rfl, rfl, hp, hj, q⟩ := h
  cases ro
  obtain ⟨t, rfl⟩ := ri
  obtain ⟨its, n, r, ho, hz⟩ := I.lst hp
  obtain ⟨h1, h2, h3, h4⟩ := ixN_seq hj
  have hl := r.length
  have hn := line63
  have I' : Inv X pins σ (upd H p (.lst (xs.set j v))) { s with heap := s.heap.update p (Obj.mapSeq (·.setIfInBounds j u)) } :=
    I.lstUpd hp ho (mapSeq_set its n j u) (r.set rv j) (by rw [List.length_set]; exact hz) s.toks
  by_cases h0 : 0 ≤ k
  · have hk : k.toNat = j := by
      rw [seqIndex_of h0 h4] at h1
      exact Option.some.inj h1
    exact PySem.W.ki_setAt ho h0 (by omega) (by rw [List.size_toArray, ← hl]; exact h4) (by rw [hk]; exact ⟨_, I', q⟩)
  · have hk : (k + (its.toArray.size : Int)).toNat = j := by
      rw [seqIndex_neg (by omega) h3] at h1
      rw [List.size_toArray, ← hl]
      exact Option.some.inj h1
    exact PySem.W.ki_setBack ho (by omega) (by rw [List.size_toArray, ← hl]; exact h3) (by omega) (by rw [hk]; exact ⟨_, I', q⟩)
theorem slice_bounds (lo hi : Option Int) (n : Nat) : (sliceBounds lo hi none n).1 = ((HT.sIx n 0 lo : Nat) : Int) ∧ (sliceBounds lo hi none n).2.1 = ((HT.sIx n n hi : Nat) : Int) ∧ (sliceBounds lo hi none n).2.2 = 1 := by
  refine ⟨?_, ?_, rfl⟩
  · cases lo with
    | none => simp [sliceBounds, HT.sIx]
    | some i =>
      simp only [sliceBounds, HT.sIx, Option.getD_none, show (1 : Int) > 0 by decide, if_true]
      by_cases h : i < 0
      · simp only [h, if_true] <;> omega
      · simp only [h, if_false] <;> omega
  · cases hi with
    | none => simp [sliceBounds, HT.sIx]
    | some i =>
      simp only [sliceBounds, HT.sIx, Option.getD_none, show (1 : Int) > 0 by decide, if_true]
      by_cases h : i < 0
      · simp only [h, if_true] <;> omega
      · simp only [h, if_false] <;> omega
theorem slicePick_cut (its : List Value) (lo hi : Option Int) : slicePick its.toArray lo hi none = ((its.drop (HT.sIx its.length 0 lo)).take (HT.sIx its.length its.length hi - HT.sIx its.length 0 lo)).toArray := by
  obtain ⟨h1, h2, h3⟩ := slice_bounds lo hi its.toArray.size
  unfold slicePick
  rw [h1, h2, h3]
  simp only [sliceRange_one, pick_run, List.size_toArray] <;> rfl
def rSlL (K : PySem.W.Frag) : V → Option Int → Option Int → Hp → VK → Prop := fun x lo hi H Q => ∃ a xs, x = .ref a ∧ SqL K H a xs ∧ ∀ p, H p = none → Q (.ref p) (upd H p (.lst (cutV xs lo hi)))
theorem sl_list : SlR X (rSlL X.K) := by
  intro pins s σ H x v vl vu lo hi sl Q I rx hs pl pu h
  obtain ⟨a, xs, rfl, hx, q⟩ := h
  cases rx
  obtain ⟨its, r, ht, hz⟩ := I.list hx
  have hlen := r.length
  refine ⟨"list", _, slot_list_getitem.lookup, ht.isList.typeIs, ?_⟩
  refine wpAny_getItem_list_slice ht.isList hs pl pu .none (by simp) ?_ (by rw [List.size_toArray] <;> omega)
  rw [slicePick_cut, ← hlen]
  refine ⟨.ref s.heap.objs.size, _, I.laid (t' := s.toks) (o := .lst (cutV xs lo hi)) (fun b ob q => Heap.get?_push_of_some _ q) (Nat.le_refl _) ?_, rfl, q _ (I.hok.fresh (Nat.le_refl _))⟩
  exact ⟨Nat.le_trans (cutV_length xs lo hi) hz, _, 0, (r.drop (HT.sIx xs.length 0 lo)).take (HT.sIx xs.length xs.length hi - HT.sIx xs.length 0 lo), Heap.get?_push_size _ rfl⟩
theorem call_len_seq : CallR X (.builtin "len") (fun xs H Q => ∃ p ys, xs = [.ref p] ∧ (SqL X.K H p ys ∨ SqT X.K H p ys) ∧ Q (.int ys.length) H) := by
  intro pins s σ H xs us Q I r h
  obtain ⟨p, ys, rfl, hq, q⟩ := h
  obtain ⟨u, rfl, rx⟩ := vals1 r
  cases rx
  have hn := line63
  rcases hq with hq | hq
  · obtain ⟨its, r', pl, hz⟩ := I.list hq
    have hlen := r'.length
    exact Calls.call_len_list pl.isList (by simp only [List.size_toArray] <;> omega) ⟨.int ys.length, H, I.tok _, ⟨s.toks + 1, by rw [List.size_toArray, hlen]⟩, q⟩
  · obtain ⟨its, r', pl, hz⟩ := I.tuple hq
    have hlen := r'.length
    exact len_tuple pl (by simp only [List.size_toArray] <;> omega) ⟨.int ys.length, H, I.tok _, ⟨s.toks + 1, by rw [List.size_toArray, hlen]⟩, q⟩
theorem call_len_str : CallR X (.builtin "len") (fun xs H Q => ∃ z, xs = [.str z] ∧ z.length ≤ sizeLine ∧ Q (.int z.length) H) := by
  intro pins s σ H xs us Q I r h
  obtain ⟨z, rfl, hz, q⟩ := h
  obtain ⟨u, rfl, t, rfl⟩ := vals1 r
  have hn := line63
  exact len_str (by omega) ⟨.int z.length, H, I.tok _, ⟨_, rfl⟩, q⟩
theorem CallR.or {f : Value} {r r' : List V → Hp → VK → Prop} (h : CallR X f r) (h' : CallR X f r') : CallR X f (fun xs H Q => r xs H Q ∨ r' xs H Q) := by
  intro pins s σ H xs us Q I rs q
  rcases q with q | q
  · exact h pins s σ H xs us Q I rs q
  · exact h' pins s σ H xs us Q I rs q
theorem call_list_of : CallR X (.type "list") (fun xs H Q => ∃ p ys, xs = [.ref p] ∧ (SqL X.K H p ys ∨ SqT X.K H p ys) ∧ ∀ l, H l = none → Q (.ref l) (upd H l (.lst ys))) := by
  intro pins s σ H xs us Q I r h
  obtain ⟨p, ys, rfl, hq, q⟩ := h
  obtain ⟨u, rfl, rx⟩ := vals1 r
  cases rx
  have fin : ∀ (its : List Value), Vals ys its → ys.length ≤ sizeLine → ∀ (h' : Heap) (c' : Nat), (∀ b o', s.heap.get? b = some o' → h'.get? b = some o') →
      h'.get? s.heap.objs.size = some { cls := .type "list", dict := none, data := .seq its.toArray c', slots := #[] } → EP X pins σ Q (.ref s.heap.objs.size) { s with heap := h' } := fun its r' hz h' c' kp e =>
    ⟨.ref s.heap.objs.size, _, I.laid (t' := s.toks) kp (Nat.le_refl _) (show ObjOk X.prog X.w _ h' _ (.lst ys) from ⟨hz, its, c', r', e⟩), rfl, q _ (I.hok.fresh (Nat.le_refl _))⟩
  rcases hq with hq | hq
  · obtain ⟨its, r', pl, hz⟩ := I.list hq
    have hlen := r'.length
    obtain ⟨o, ho, hc, n, hd⟩ := pl.isList
    exact call_list_seq p (.inl rfl) ho hc hd (fun h' c' kp e => fin its r' hz h' c' kp e) (by simp only [List.size_toArray] <;> omega)
  · obtain ⟨its, r', pl, hz⟩ := I.tuple hq
    have hlen := r'.length
    obtain ⟨o, ho, hc, n, hd⟩ := pl
    exact call_list_seq p (.inr rfl) ho hc hd (fun h' c' kp e => fin its r' hz h' c' kp e) (by simp only [List.size_toArray] <;> omega)
def tyV (K : PySem.W.Frag) (T : String) (x : V) (H : Hp) : Prop := match x with
  | .str _ => T = "str"
  | .int _ => T = "int"
  | .ref p => (T = "list" ∧ ∃ xs, SqL K H p xs) ∨ (T = "tuple" ∧ ∃ o, K.lookup p = some o ∧ o.cls = .type "tuple" ∧ o.dict = none) ∨
      (T = "dict" ∧ ((∃ kvs, H p = some (.dK kvs)) ∨ ∃ kvs, H p = some (.dT kvs))) ∨ (T = "set" ∧ ∃ S n, H p = some (.set S n))
  | _ => False
theorem tyV_is {pins : List (Addr × Obj)} {σ : St} {H : Hp} {s : Shared} {T : String} {x : V} {v : Value} (I : Inv X pins σ H s) (r : RelV x v) (ty : tyV X.K T x H) :
    s.TypeIs v T ∧ ∀ a, v = .ref a → ∃ ob, s.heap.get? a = some ob ∧ ob.dict = none := by
  cases x with
  | str z =>
    obtain ⟨t, rfl⟩ := r
    cases (show T = "str" from ty)
    exact ⟨typeIs_str s z t, fun _ e => nomatch e⟩
  | int i =>
    obtain ⟨t, rfl⟩ := r
    cases (show T = "int" from ty)
    exact ⟨typeIs_int s i t, fun _ e => nomatch e⟩
  | ref p =>
    cases r
    rcases ty with ⟨rfl, xs, hq⟩ | ⟨rfl, o, hk, hc, hd⟩ | ⟨rfl, hk⟩ | ⟨rfl, S, n, hk⟩
    · obtain ⟨its, _, pl, _⟩ := I.list hq
      refine ⟨pl.isList.typeIs, fun a e => ?_⟩
      cases e
      obtain ⟨o, n, e, c, hd, _⟩ := pl
      exact ⟨o, e, hd⟩
    · refine ⟨⟨o, I.kIn p o hk, hc⟩, fun a e => ?_⟩
      cases e
      exact ⟨o, I.kIn _ o hk, hd⟩
    · have z : ∃ o, s.heap.get? p = some o ∧ o.ExactDict := by
        rcases hk with ⟨kvs, hk⟩ | ⟨kvs, hk⟩
        · obtain ⟨_, _, _, _, o, _, _, e, ex, _⟩ := I.hok p _ hk
          exact ⟨o, e, ex⟩
        · obtain ⟨_, _, _, _, o, _, _, e, ex, _⟩ := I.hok p _ hk
          exact ⟨o, e, ex⟩
      obtain ⟨o, e, ex⟩ := z
      refine ⟨⟨o, e, ex.1⟩, fun a e2 => ?_⟩
      cases e2
      exact ⟨o, e, ex.2.1⟩
    · obtain ⟨o, _, _, _, e, ex, _⟩ := I.hok p _ hk
      refine ⟨⟨o, e, ex.1⟩, fun a e2 => ?_⟩
      cases e2
      exact ⟨o, e, ex.2.1⟩
  | _ => exact False.elim ty
def tBM (K : PySem.W.Frag) (T : String) (r : V → List V → Hp → VK → Prop) (to : TE) (t : TA) : TE := fun σ H Q => to σ H fun x H1 => tyV K T x H1 ∧ t σ H1 fun xs H2 => r x xs H2 Q
variable {o e : Expr} {es : List Expr} {to : TE} {t : TA} {name : Str} {apos cpos : Pos} {T id : String} {r : V → List V → Hp → VK → Prop}
theorem pe_bm (pa : PlainAttrs T) (slot : Slot T name id) (hty : typeOf (.builtin id) = pure (.type "method_descriptor")) (hm : MtR X id r) (ho : PE X o to) (ha : PA X (e :: es) t)
    (hbase : attributeBase o name X.env (eval o X.env) = eval o X.env := by rfl)
    (hfew : ((backTo cpos (starEach (e :: es) X.env)).all (fun x => !x.1) && (backToKw cpos (keywordEach [] X.env)).all (fun x => x.1.isSome)
      && decide ((e :: es).length + ([] : List Keyword).length + (if ([] : List Keyword).isEmpty then 0 else 1) < 30)) = true := by rfl)
    (hline : (apos.endLine == cpos.line) = true := by rfl) (hs : starEach (e :: es) X.env = (false, eval e X.env) :: starEach es X.env := by rfl) (hplain : (backTo cpos (starEach es X.env)).any (·.1) = false := by rfl) :
    PE X (.Call (.Attribute o name apos) (e :: es) [] cpos) (tBM X.K T r to t) := by
  intro pins s σ H Q I h
  refine wpAny_Call_method_late hbase hfew hline rfl (thn (ho pins s σ H _ I h) fun v s1 ⟨x, H1, I1, r1, ty, q1⟩ => ?_)
  obtain ⟨h1, h2⟩ := tyV_is I1 r1 ty
  refine ⟨T, id, pa, slot, hty, h1, h2, ?_⟩
  have hA := ha cpos pins s1 σ H1 _ I1 q1
  rw [hs] at hA ⊢
  refine Calls.callWith_builtin (by show (false || (backTo cpos (starEach es X.env)).any (·.1)) = false; rw [hplain] <;> rfl) (Calls.evalArgs_plain ?_)
  exact thn hA fun us s2 ⟨vs, H2, I2, r2, q2⟩ => hm pins s2 σ H2 x vs v us Q I2 r1 r2 q2
end
end L2
namespace L2
open PySem PySem.Spec PyProof.Rows
def MtM (X : Cx) (id : String) (r : V → List V → Hp → VK → Prop) : Prop :=
  ∀ (pins : List (Addr × Obj)) (s : Shared) (σ : St) (H : Hp) (x : V) (xs : List V) (v : Value) (us : List Value) (Q : VK), Inv X pins σ H s → RelV x v → Vals xs us → r x xs H Q →
    wpAny (model X.prog X.w) X.A (call (.builtin id) (v :: us)) (EP X pins σ Q) X.xe s
theorem Vals.one : ∀ {x : V} {us : List Value}, Vals [x] us → ∃ u, us = [u] ∧ RelV x u
  | _, _, .cons r .nil => ⟨_, rfl, r⟩
theorem Vals.two : ∀ {x y : V} {us : List Value}, Vals [x, y] us → ∃ u v, us = [u, v] ∧ RelV x u ∧ RelV y v
  | _, _, _, .cons r (.cons q .nil) => ⟨_, _, rfl, r, q⟩
theorem Vals.zero : ∀ {us : List Value}, Vals [] us → us = []
  | _, .nil => rfl
section
variable {X : Cx} {pins : List (Addr × Obj)} {σ : St} {H : Hp} {s : Shared} {l b : Addr} {xs ys zs : List V}
theorem Inv.lset {its its' : List Value} {n : Nat} {f : Array Value → Array Value} {t' : Nat} (I : Inv X pins σ H s) (hH : H l = some (.lst xs))
    (e : s.heap.get? l = some { cls := .type "list", data := .seq its.toArray n }) (hf : f its.toArray = its'.toArray) (hv : Vals ys its') (hz : ys.length ≤ sizeLine) :
    Inv X pins σ (upd H l (.lst ys)) { s with heap := s.heap.update l (Obj.mapSeq f), toks := t' } := by
  have q := PySem.IsL.update e f
  rw [hf] at q
  refine I.write (x := l) (e := l) (by rw [hH]; exact trivial) (.inl rfl) (fun b' u hb hu => (Heap.get?_update_other s.heap (Obj.mapSeq f) (Ne.symm hb)).trans hu) ⟨_, q⟩ ?_
  exact ⟨hz, its', _, hv, q⟩
theorem Inv.lnew {its : List Value} {t' : Nat} (I : Inv X pins σ H s) (hv : Vals ys its) (hz : ys.length ≤ sizeLine) :
    Inv X pins σ (upd H s.heap.objs.size (.lst ys)) { s with heap := s.heap.push { cls := .type "list", data := .seq its.toArray }, toks := t' } :=
  I.laid (fun _ _ q => Heap.get?_push_of_some _ q) (Nat.le_refl _) ⟨hz, its, 0, hv, Heap.get?_push_size _ rfl⟩
theorem Inv.fresh (I : Inv X pins σ H s) : H s.heap.objs.size = none := I.hok.fresh (Nat.le_refl _)
theorem Inv.lstM (I : Inv X pins σ H s) (hH : H l = some (.lst xs)) : xs.length ≤ sizeLine ∧ ∃ (its : List Value) (n : Nat), Vals xs its ∧ xs.length = its.length ∧ s.heap.get? l = some { cls := .type "list", data := .seq its.toArray n } := by
  obtain ⟨z, its, n, r, e⟩ := I.hok l _ hH
  exact ⟨z, its, n, r, r.length, e⟩
end
section
variable {X : Cx}
def rAppend : V → List V → Hp → VK → Prop := fun x vs H Q => ∃ l xs y, x = .ref l ∧ vs = [y] ∧ H l = some (.lst xs) ∧ xs.length < sizeLine ∧ Q .non (upd H l (.lst (xs ++ [y])))
theorem mt_append : MtM X "list.append" rAppend := by
  intro pins s σ H x vs v us Q I rx rv h
  obtain ⟨l, xs, y, rfl, rfl, hH, hz, q⟩ := h
  cases rx
  obtain ⟨u, rfl, ru⟩ := rv.one
  obtain ⟨z, its, n, r, hl, e⟩ := I.lstM hH
  refine call_meets F.slot_list_append ⟨_, e, rfl⟩ F.entry_list_append (F.args_list_append_2 _ _) (PySem.list_append l its.toArray n u (by rw [List.size_toArray]; omega)) ⟨e, ?_⟩
  refine ⟨.non, _, I.lset (its' := its ++ [u]) hH e (by simp) (r.append (.cons ru .nil)) ?_, rfl, q⟩
  rw [List.length_append, List.length_singleton]
  omega
end
section
variable {prog : Program} {w : World} {A : Around} {E : Value → Shared → Prop} {s : Shared}
end
section
variable {X : Cx}
end
end L2
namespace Att
open PySem PySem.W PySem.Calls PyProof.Rows
theorem ints_of_wellAll {P : Params} {h : Heap} : ∀ (ns : List Int) (vs : List Value), WellAll P h vs (ns.map WData.int) → IntsAre vs ns := by
  intro ns
  induction ns with
  | nil =>
    intro vs w
    rw [List.map_nil] at w
    cases w
    exact .nil
  | cons n ns ih =>
    intro vs w
    rw [List.map_cons] at w
    cases w with
    | cons a b =>
      cases a
      exact .cons _ _ (ih _ b)
theorem script_of {l : OpenLaw} {n : Nat} (hn : l.most = some n) {P : Params} {h : Heap} {args : List WData} {vals : List Value}
    (hpre : l.row.toRowW.claim.pre args = true) (hwl : WellAll P h vals args) :
    ∃ a vs ns, vals = [Value.ref a] ∧ args = [WData.list (ns.map WData.int)] ∧ h.get? a = some { cls := .type "list", data := .seq vs.toArray } ∧ IntsAre vs ns ∧ ns.length ≤ n := by
  have hsh : WShape.hasAll [] args [.list .int] = true := (pre_splitW hpre).1
  have hc : l.pre.holds [] { args := args } = true := (pre_splitW hpre).2
  obtain ⟨d, r, rfl, h1, h2⟩ := hasAllW_cons hsh
  obtain rfl := hasAllW_nil h2
  obtain ⟨xs, rfl, h3⟩ := hasW_list h1
  obtain ⟨ns, rfl⟩ := items_int h3
  have hlen : ns.length ≤ n := by
    unfold OpenLaw.pre at hc
    have h4 : (WTm.not (.lt (.lit (.int (n : Int))) (.len (.arg 0)))).holds [] { args := [.list (ns.map .int)] } = true := by
      have h4 := (holds_andW hc).1
      rw [hn] at h4
      exact h4
    have h5 := condW_of h4 (w_not (w_lt w_lit (w_len_list (w_arg rfl))))
    rw [List.length_map] at h5
    refine Nat.le_of_not_lt fun q => ?_
    have q' : (n : Int) < ((ns.length : Nat) : Int) := by omega
    first
      | (rw [decide_eq_true q'] at h5; exact absurd h5 (by decide))
      | (simp at h5; omega)
  cases hwl with
  | cons w1 w2 =>
    cases w2
    cases w1 with
    | list ho hall => exact ⟨_, _, ns, rfl, rfl, ho, ints_of_wellAll ns _ hall, hlen⟩
theorem post_true (l : OpenLaw) (args : List WData) : l.row.toRowW.claim.post args (.bool true) args = true :=
  postW_of (r := l.row.toRowW) (X := (true == true))
    (show WShape.has [] (.bool true) .bool = true by first | rfl | decide | simp [WShape.has, WShape.arms, WShape.armsAll])
    (show (WTm.eq .res (.lit (.bool true))).value [] { args := args, res := some (.bool true), after := args } = some (.bool (true == true)) from w_eq_bool (w_res rfl) w_lit) rfl
theorem attach_call {l : OpenLaw} {n : Nat} {q : Program} {loose : List Str} {XP : (Str → Option Value) → Heap → Prop} {YP : World → Heap → Prop} {d : DefRec}
    (hn : l.most = some n) (hdf : d.params.defaults = [])
    (call : ∀ (w : World) (s₀ s₁ : Shared) (mg mb : Str → Option Value) (fa : Addr) (o : Obj) (pm cd doc : Value) (a : Addr) (vs : List Value) (ns : List Int),
      Ground q loose [] XP w s₀ mg mb s₁.heap → YP w s₁.heap →
      s₁.heap.get? fa = some o → o.data = .func (docDef d.name d.params d.body d.scope pm cd doc) → s₁.heap.CodeRec cd d.name → mg d.name = some (.ref fa) →
      s₁.heap.get? a = some { cls := .type "list", data := .seq vs.toArray } → IntsAre vs ns → ns.length ≤ n → s₁.gens = #[] →
      codeAny (model l.prog w) callerA (.call (.ref fa) ⟨[.ref a], []⟩) (fun r s' => r = .ok (.ret (.bool true)) ∧ OldK s₁.heap s'.heap ∧ s'.os = s₁.os ∧ AllBare s'.gens) s₁) :
    WalkO q loose XP YP l.row.toRowW d [] (fun f vs => PySem.call f vs) := by
  intro w s₀ s₁ mg mb G Y fa o pm cd doc dV kV ho hd hcd hD hmg hg args vals as hpre hlay hrd hwl hlo
  obtain rfl : dV = .none := Dflts.none hD hdf
  obtain rfl : kV = .none := Dflts.noKw hD
  obtain ⟨a, vs, ns, rfl, rfl, hobj, hints, hlen⟩ := script_of hn hpre hwl
  refine enter_call (codeAny_mono (call w s₀ s₁ mg mb fa o pm cd doc a vs ns G Y ho (fd_plain hd) hcd hmg hobj hints hlen hg) fun r s' hq => ?_)
  obtain ⟨rfl, h2, h3, h4⟩ := hq
  exact ⟨.inl ⟨.bool true, .bool true, [], rfl, fun _ => rfl, .bool true, post_true l _, fun _ => ⟨List.Pairwise.nil, fun _ hm => (nomatch hm)⟩⟩, h2, h3, h4⟩
section
variable {prog : Program} {w : World} {A : Around} {E : Value → Shared → Prop} {s : Shared} {K : Frag}
end
end Att
namespace L2
open PySem PySem.Spec PyProof.Rows
theorem vals_ints : ∀ {vs : List Value} {ns : List Int}, IntsAre vs ns → Vals (ns.map V.int) vs
  | _, _, .nil => .nil
  | _, _, .cons n t h => .cons ⟨t, rfl⟩ (vals_ints h)
def Only (H : Hp) : Prop := ∀ b, H b = none ∨ ∃ o xs, H b = some (.frz o (.lst xs))
theorem law_call {P : Program} {w : World} {K : PySem.W.Frag} {mg mb : Str → Option Value} {CX : CXT} {k : Nat} {fa a : Addr} {fd : FuncData} {x : Str} {sp : Sp} {s₁ : Shared} {vs : List Value} {ns : List Int}
    (KX : K.In s₁.heap) (hns : s₁.heap.Ns mainGlobals mg) (hb : s₁.heap.Ns builtinsNs mb) (hbb : ∀ x : Str, x ≠ "__name__" → mb x = bootBuiltins x) (hlim : s₁.heap.NoLimit) (hg : s₁.gens = #[])
    (ha : s₁.heap.get? a = some { cls := .type "list", data := .seq vs.toArray }) (hi : IntsAre vs ns) (hl : ns.length ≤ sizeLine) (hr : Room k callerA)
    (F : ∀ base : Heap, K.In base → base.Ns mainGlobals mg → FnOk P w K mg base CX k fa fd [x] sp) (hbind : ∀ (s : Shared) (u : Value), BindsTo s fd ⟨[u], []⟩ [(x, u)])
    (hsp : ∀ H : Hp, Only H → SqL K H a (ns.map V.int) → sp [.ref a] H (fun v _ => v = .bl true) fun _ _ _ => False)
    (hCX : ∀ H e s', CX [] H s₁ (fun _ _ _ => False) e s' → False) :
    codeAny (model P w) callerA (.call (.ref fa) ⟨[.ref a], []⟩) (fun r s' => r = .ok (.ret (.bool true)) ∧ OldK s₁.heap s'.heap ∧ s'.os = s₁.os ∧ AllBare s'.gens) s₁ := by
  have rv := vals_ints hi
  have lenV := hi.length
  have core : ∀ H : Hp, Only H → SqL K H a (ns.map V.int) → HOk P w H s₁.heap → (∀ b, H b ≠ none → b = a) → (H a ≠ none → K.lookup a = none) →
      codeAny (model P w) callerA (.call (.ref fa) ⟨[.ref a], []⟩) (fun r s' => r = .ok (.ret (.bool true)) ∧ OldK s₁.heap s'.heap ∧ s'.os = s₁.os ∧ AllBare s'.gens) s₁ := by
    intro H hO hS hok hA hK
    have base_of : ∀ {b : Addr} {o : Obj}, s₁.heap.get? b = some o → H b = none → (hidT s₁.heap H).get? b = some o := fun e n => hidT_get e n
    have noA : ∀ {b : Addr} {o : Obj} {es : Array DictEntry} {ep : Nat}, s₁.heap.get? b = some o → o.data = .dict es ep → H b = none := fun {b o es ep} e d => by
      cases q : H b with
      | none => rfl
      | some u =>
        have e' : b = a := hA b (by rw [q]; simp)
        subst e'
        rw [ha] at e; cases e
        have d' : Data.seq vs.toArray _ = Data.dict es ep := d
        cases d'
    have nsK : ∀ {b : Addr} {m : Str → Option Value}, s₁.heap.Ns b m → (hidT s₁.heap H).Ns b m := fun {b m} ⟨o, es, ep, e, d, r⟩ => ⟨o, es, ep, base_of e (noA e d), d, r⟩
    have hKb : K.In (hidT s₁.heap H) := fun b o e => base_of (KX b o e) (by
      cases q : H b with
      | none => rfl
      | some u =>
        have e' : b = a := hA b (by rw [q]; simp)
        subst e'
        rw [hK (by rw [q]; simp)] at e; cases e)
    have hM : Mod K mg (hidT s₁.heap H) := ⟨hKb, nsK hns, ⟨mb, nsK hb, hbb⟩, let ⟨mc, h1, h2⟩ := hlim; ⟨mc, nsK h1, h2⟩⟩
    have e0 : Env0 P w K mg (hidT s₁.heap H) callerA [] s₁ H := ⟨rfl, hM, fun b o e => of_hidT e, Nat.le_of_eq (hidT_size _ _), trivial, fun b hb => absurd (show b ∈ ([] : List Addr) from hb) (by simp), hok, .of_eq hg⟩
    refine codeAny_mono ((F _ hKb (nsK hns)).run callerA [] s₁ H ⟨[.ref a], []⟩ [.ref a] [.ref a] _ _ hr e0 (hbind s₁ (.ref a)) (.cons rfl .nil) (hsp H hO hS)) fun r s' h => ?_
    cases r with
    | error e => exact (hCX H e s' h).elim
    | ok fl =>
      cases fl with
      | next => exact False.elim h
      | brk => exact False.elim h
      | cont => exact False.elim h
      | ret u =>
        obtain ⟨v, H', os, bare, un, hok', r', q⟩ := h
        have q' : v = .bl true := q
        subst q'
        obtain rfl : u = Value.bool true := r'
        refine ⟨rfl, OldK.of_keep fun b o e => ?_, os, bare⟩
        cases q : H b with
        | none => exact un.keep b o e q (by intro z; exact absurd (show b ∈ ([] : List Addr) from z) (by simp)) (by simp)
        | some u =>
          rcases hO b with z | ⟨ob, xs, z⟩
          · rw [q] at z; cases z
          · have z2 := un.frzs b ob _ z
            obtain ⟨e1, _⟩ := hok b _ z
            obtain ⟨e2, _⟩ := hok' b _ z2
            rw [e] at e1; cases e1
            exact e2
  cases hk : K.lookup a with
  | some o =>
    have e := KX a o hk
    rw [ha] at e
    cases e
    refine core (fun _ => none) (fun _ => .inl rfl) (.inr ⟨_, vs.toArray, _, hk, rfl, rfl, rfl, by rw [List.size_toArray, lenV]; exact hl, by simpa using rv⟩) (fun b u z => by have z' : (none : Option HO) = some u := z; cases z') (fun b z => absurd rfl z) fun z => absurd rfl z
  | none =>
    refine core (fun b => if b = a then some (.frz { cls := .type "list", data := .seq vs.toArray } (.lst (ns.map V.int))) else none) (fun b => ?_) (.inl (.inr ⟨{ cls := .type "list", data := .seq vs.toArray }, if_pos rfl⟩)) (fun b u z => ?_) (fun b z => ?_) fun _ => hk
    · by_cases hb : b = a
      · exact .inr ⟨_, _, if_pos hb⟩
      · exact .inl (if_neg hb)
    · by_cases hb : b = a
      · have z' := (if_pos hb).symm.trans z
        cases z'
        subst hb
        exact ⟨ha, by rw [List.length_map]; exact hl, vs, _, rv, ha⟩
      · have z' := (if_neg hb).symm.trans z
        cases z'
    · by_cases hb : b = a
      · exact hb
      · exact absurd (if_neg hb) z
end L2
namespace L2
open PySem PySem.Spec PyProof.Rows
theorem walk_of {l : PySem.W.OpenLaw} {n k : Nat} {q : Program} {loose : List Str} {XP : (Str → Option Value) → Heap → Prop} {YP : World → Heap → Prop} {d : DefRec} {K : Params → PySem.W.Frag} {CX : World → CXT} {sp : World → Sp} {x : Str}
    (hn : l.most = some n) (hn2 : n ≤ sizeLine) (hdf : d.params.defaults = []) (hr : Room k callerA)
    (hY : ∀ (w : World) (h : Heap), YP w h → (K w.params).In h)
    (F : ∀ (w : World) (mg : Str → Option Value) (fa : Addr) (h : Heap), (K w.params).In h → h.Ns mainGlobals mg → mg d.name = some (.ref fa) →
      ∃ fd : FuncData, (∀ (s : Shared) (u : Value), BindsTo s fd ⟨[u], []⟩ [(x, u)]) ∧
        ∀ base : Heap, (K w.params).In base → base.Ns mainGlobals mg → FnOk l.prog w (K w.params) mg base (CX w) k fa fd [x] (sp w))
    (hsp : ∀ (w : World) (H : Hp) (a : Addr) (ns : List Int), ns.length ≤ n → Only H → SqL (K w.params) H a (ns.map V.int) → sp w [.ref a] H (fun v _ => v = .bl true) fun _ _ _ => False)
    (hCX : ∀ (w : World) (H : Hp) (s : Shared) (e : Value) (s' : Shared), CX w [] H s (fun _ _ _ => False) e s' → False) :
    PySem.W.WalkO q loose XP YP l.row.toRowW d [] (fun f vs => PySem.call f vs) := by
  refine Att.attach_call hn hdf fun w s₀ s₁ mg mb fa o pm cd doc a vs ns G Y ho hd hcd hmg hobj hints hlen hg => ?_
  have KX := hY w _ Y
  obtain ⟨fd, hb, hF⟩ := F w mg fa _ KX G.T.g hmg
  exact law_call KX G.T.g G.T.b G.T.builtins G.T.nolimit hg hobj hints (Nat.le_trans hlen hn2) hr hF hb (fun H hO hS => hsp w H a ns hlen hO hS) fun H e s' => hCX w H s₁ e s'
end L2
namespace L2
open PySem PySem.Spec PyProof.Rows
def defArgs (s : Stmt) : Arguments := match s with
  | .FunctionDef _ a _ _ _ _ _ _ _ _ => a
  | _ => { posonlyargs := [], args := [], vararg := none, kwonlyargs := [], kw_defaults := [], kwarg := none, defaults := [] }
def defBody (s : Stmt) : List Stmt := match s with
  | .FunctionDef _ _ b _ _ _ _ _ _ _ => b
  | _ => []
def defScope (s : Stmt) : Scope := match s with
  | .FunctionDef _ _ _ _ _ _ sc _ _ _ => sc
  | _ => { kind := .function, names := [], isGenerator := false, isCoroutine := false }
abbrev CX0 : CXT := fun _ _ _ _ _ _ => False
abbrev E0 : XK := fun _ _ _ => False
theorem pass0 {X : Cx} : Passes CX0 X E0 := fun _ _ _ _ _ _ _ h => h.elim
structure Fun (K : PySem.W.Frag) (x qual : Str) (st : Stmt) (f : Addr) (fd : FuncData) : Prop where
  ex : ∃ (oc : Value) (od : Option Addr) (kV doc pm : Value) (an : Option Addr) (cdv ct : Value) (osl : Array (Option Value)),
    fd = PySem.W.fnOf x qual (defArgs st) (defBody st) (defScope st) .none kV doc pm an cdv ct ∧ K.lookup f = some ⟨oc, od, .func fd, osl⟩ ∧ PySem.W.codeIn K cdv qual = true
  kp : PySem.W.keepIn K (.ref f) = true
section
variable {P : Program} {w : World} {K : PySem.W.Frag} {mg : Str → Option Value} {base : Heap}
theorem Fun.ok {x qual : Str} {st : Stmt} {f : Addr} {fd : FuncData} {N ps : List Str} {k : Nat} {sp : Sp} (F : Fun K x qual st f fd) (S : FnScope N ps (defScope st)) (len : ∀ vs H Q E, sp vs H Q E → vs.length = ps.length)
    (hbody : ∀ (cdv : Value) (A : Around) (outer : List Env) (s : Shared) (H : Hp) (vs : List V) (Q : VK) (E : XK), Room k (A.deeper (envOfC qual (defScope st) s.heap.objs.size f cdv)) → sp vs H Q E →
      ∃ t, PSs (cxOf CX0 P w K mg base N qual (defScope st) f cdv A outer s H E).nox (defBody st) t ∧ t { nx := fun _ H' => Q .non H', rt := Q } (start N vs) H) : FnOk P w K mg base CX0 (k + 1) f fd ps sp := by
  obtain ⟨oc, od, kV, doc, pm, an, cdv, ct, osl, rfl, lk, hcd⟩ := F.ex
  refine fn_of lk hcd S len fun A outer s H vs Q E hr hsp => ?_
  obtain ⟨t, h, q⟩ := hbody cdv A outer s H vs Q E hr hsp
  exact ⟨t, h.nox, q⟩
theorem Fun.binds {x qual : Str} {st : Stmt} {f : Addr} {fd : FuncData} {ps : List Str} (F : Fun K x qual st f fd)
    (h : ∀ (kV doc pm : Value) (an : Option Addr) (cdv ct : Value) (us : List Value), us.length = ps.length → bindArgs (PySem.W.fnOf x qual (defArgs st) (defBody st) (defScope st) .none kV doc pm an cdv ct) ⟨us, []⟩ = pure (ps.zip us)) : Binds K fd ps [] := by
  obtain ⟨oc, od, kV, doc, pm, an, cdv, ct, osl, rfl, lk, hcd⟩ := F.ex
  exact .all (h kV doc pm an cdv ct)
theorem fun_mk {x qual : Str} {st : Stmt} {f : Addr} {oc : Value} {od an : Option Addr} {osl : Array (Option Value)} {kV doc pm cdv ct : Value} (l : K.lookup f = some ⟨oc, od, .func (PySem.W.fnOf x qual (defArgs st) (defBody st) (defScope st) .none kV doc pm an cdv ct), osl⟩)
    (c : PySem.W.codeIn K cdv qual = true) (k : PySem.W.keepIn K (.ref f) = true) : Fun K x qual st f (PySem.W.fnOf x qual (defArgs st) (defBody st) (defScope st) .none kV doc pm an cdv ct) := ⟨⟨oc, od, kV, doc, pm, an, cdv, ct, osl, rfl, l, c⟩, k⟩
end
theorem small1000 {n : Nat} (h : n ≤ 1000) : n < sizeLine := Nat.lt_of_le_of_lt h (by decide)
section
variable {X : Cx}
theorem pv (i : Nat) {x : Str} {pos : Pos} (hN : X.N[i]? = some x := by rfl) (hv : Vis X.env.scope x := by first | exact Or.inl rfl | exact Or.inr (Or.inl rfl) | exact Or.inr (Or.inr rfl)) (hd : (x == ("__debug__" : Str)) = false := by decide)
    (hcd : (x == ("__classdict__" : Str)) = false := by decide) : PE X (.Name x pos) (tVar i) := pe_var hN hv hd hcd
end
theorem iteF {A B : Prop} (h : B) : if false = true then A else B := by
  rw [if_neg Bool.false_ne_true]
  exact h
theorem iteT {A B : Prop} (h : A) : if true = true then A else B := by
  rw [if_pos rfl]
  exact h
theorem ite2 {c A B : Prop} [Decidable c] (h1 : c → A) (h2 : ¬ c → B) : if c then A else B := by
  by_cases h : c
  · rw [if_pos h]
    exact h1 h
  · rw [if_neg h]
    exact h2 h
def Same (H H' : Hp) : Prop := ∀ b o, H b = some o → H' b = some o
theorem Same.refl (H : Hp) : Same H H := fun _ _ h => h
theorem Same.trans {H H1 H2 : Hp} (a : Same H H1) (b : Same H1 H2) : Same H H2 := fun c o h => b c o (a c o h)
theorem Same.free {H H' : Hp} (e : Same H H') {l : Addr} (h : H' l = Option.none) : H l = Option.none := by
  cases q : H l with
  | none => rfl
  | some o =>
    rw [e l o q] at h
    cases h
theorem Same.seq {K : PySem.W.Frag} {H H' : Hp} {a : Addr} {xs : List V} (e : Same H H') (h : SqL K H a xs) : SqL K H' a xs := by
  rcases h with (h | ⟨o, h⟩) | h
  · exact .inl (.inl (e _ _ h))
  · exact .inl (.inr ⟨o, e _ _ h⟩)
  · exact .inr h
end L2
set_option Elab.async false
set_option linter.all false
set_option maxRecDepth 100000
set_option maxHeartbeats 4000000
namespace L2
open PySem PySem.Spec PyProof.Rows
section
theorem forIn_closed {env : Env} {f : Str × NameKind → List (Str × Addr) → Sem (ForInStep (List (Str × Addr)))} : ∀ (l : List (Str × NameKind)) (cs : List (Str × Addr)),
    (∀ p ∈ l, ∀ r, (p.2 = .free → ∃ c, env.cells.lookup p.1 = some c ∧ f p r = pure (.yield ((p.1, c) :: r))) ∧ (p.2 ≠ .free → f p r = pure (.yield r))) →
    ∃ cl, forIn l cs f = pure cl ∧ (∀ y c, cl.lookup y = some c → cs.lookup y = some c ∨ env.cells.lookup y = some c) ∧ (∀ y, (cs.lookup y).isSome = true → (cl.lookup y).isSome = true) ∧
      ∀ p ∈ l, p.2 = .free → (cl.lookup p.1).isSome = true
  | [], cs, _ => ⟨cs, by rw [List.forIn_nil], fun _ _ h => .inl h, fun _ h => h, fun _ h => nomatch h⟩
  | p :: l, cs, hf => by
    have hr : ∀ q ∈ l, ∀ r, (q.2 = .free → ∃ c, env.cells.lookup q.1 = some c ∧ f q r = pure (.yield ((q.1, c) :: r))) ∧ (q.2 ≠ .free → f q r = pure (.yield r)) := fun q hq r => hf q (List.mem_cons_of_mem _ hq) r
    by_cases hp : p.2 = .free
    · obtain ⟨c, hc, e⟩ := (hf p List.mem_cons_self cs).1 hp
      obtain ⟨cl, h1, h2, h3, h4⟩ := forIn_closed l ((p.1, c) :: cs) hr
      refine ⟨cl, ?_, fun y d h => ?_, fun y h => h3 y ?_, fun q hq hqf => ?_⟩
      · rw [List.forIn_cons, e]
        exact h1
      · rcases h2 y d h with z | z
        · rw [List.lookup_cons] at z
          cases hy : y == p.1 with
          | true =>
            rw [hy] at z
            have ey : y = p.1 := eq_of_beq hy
            cases z
            rw [ey]
            exact .inr hc
          | false => rw [hy] at z; exact .inl z
        · exact .inr z
      · rw [List.lookup_cons]
        cases hy : y == p.1 with
        | true => rfl
        | false => exact h
      · rcases List.mem_cons.mp hq with z | z
        · subst z
          refine h3 _ ?_
          rw [List.lookup_cons, beq_self_eq_true]
          rfl
        · exact h4 q z hqf
    · have e := (hf p List.mem_cons_self cs).2 hp
      obtain ⟨cl, h1, h2, h3, h4⟩ := forIn_closed l cs hr
      refine ⟨cl, ?_, h2, h3, fun q hq hqf => ?_⟩
      · rw [List.forIn_cons, e]
        exact h1
      · rcases List.mem_cons.mp hq with z | z
        · subst z; exact absurd hqf hp
        · exact h4 q z hqf
theorem closureFor_pure {scope : Scope} {env : Env} (h : ∀ p ∈ scope.names, p.2 = .free → ∃ c, env.cells.lookup p.1 = some c) :
    ∃ cl, closureFor scope env = pure cl ∧ (∀ y c, cl.lookup y = some c → env.cells.lookup y = some c) ∧ ∀ p ∈ scope.names, p.2 = .free → ∃ c, cl.lookup p.1 = some c := by
  have key : ∃ cl, closureFor scope env = pure cl ∧ (∀ y c, cl.lookup y = some c → ([] : List (Str × Addr)).lookup y = some c ∨ env.cells.lookup y = some c) ∧ (∀ y, (([] : List (Str × Addr)).lookup y).isSome = true → (cl.lookup y).isSome = true) ∧
      ∀ p ∈ scope.names, p.2 = .free → (cl.lookup p.1).isSome = true := by
    simp only [closureFor]
    have go := @forIn_closed env (fun x r => if x.2 == NameKind.free then (do let c ← cellOf env x.1; pure (ForInStep.yield ((x.1, c) :: r))) else pure (ForInStep.yield r)) scope.names [] ?_
    · obtain ⟨cl, h1, h2⟩ := go
      refine ⟨cl, ?_, h2⟩
      first
        | (show (forIn scope.names [] _ >>= fun cs => pure cs) = _; rw [h1]; rfl)
        | (rw [h1]; rfl)
        | exact congrArg (· >>= pure) h1
    · intro p hp r
      refine ⟨fun hf => ?_, fun hf => ?_⟩
      · obtain ⟨c, hc⟩ := h p hp hf
        refine ⟨c, hc, ?_⟩
        have e1 : (p.2 == NameKind.free) = true := by rw [hf]; rfl
        have e2 : cellOf env p.1 = pure c := by unfold cellOf; rw [hc]
        rw [e1, if_pos rfl, e2]
        rfl
      · have e1 : (p.2 == NameKind.free) = false := by simpa using hf
        rw [e1, if_neg (by decide)]
  obtain ⟨cl, h1, h2, h3, h4⟩ := key
  refine ⟨cl, h1, fun y c e => ?_, fun p hp hf => Option.isSome_iff_exists.mp (h4 p hp hf)⟩
  rcases h2 y c e with z | z
  · rw [List.lookup_nil] at z; cases z
  · exact z
theorem relabel_look {scope : Scope} {env : Env} (y : Str) : (relabel scope env).names.lookup y =
    (scope.names.lookup y).map fun k => if (k == .free && env.scope.kind == .function && env.kindOf y == some .cell) = true then .cell else k := by
  have key : ∀ l : List (Str × NameKind), (l.map fun (n, k) => if (k == NameKind.free && env.scope.kind == .function && env.kindOf n == some .cell) then (n, NameKind.cell) else (n, k)).lookup y =
      (l.lookup y).map fun k => if (k == .free && env.scope.kind == .function && env.kindOf y == some .cell) = true then .cell else k := by
    intro l
    induction l with
    | nil => rfl
    | cons p l ih =>
      obtain ⟨n, k⟩ := p
      rw [List.map_cons]
      show List.lookup y ((if (k == NameKind.free && env.scope.kind == .function && env.kindOf n == some .cell) = true then (n, NameKind.cell) else (n, k)) :: _) = _
      by_cases hc : (k == NameKind.free && env.scope.kind == .function && env.kindOf n == some .cell) = true
      · rw [if_pos hc, List.lookup_cons, List.lookup_cons]
        cases hy : y == n with
        | true =>
          have ey : y = n := eq_of_beq hy
          subst ey
          show some NameKind.cell = some (if _ then _ else _)
          rw [if_pos hc]
        | false => exact ih
      · rw [if_neg hc, List.lookup_cons, List.lookup_cons]
        cases hy : y == n with
        | true =>
          have ey : y = n := eq_of_beq hy
          subst ey
          show some k = some (if _ then _ else _)
          rw [if_neg hc]
        | false => exact ih
  exact key scope.names
end
def compOk (N ts : List Str) (out sc : Scope) : Bool :=
  (sc.kind == .function) && sc.names.all (fun p => (p.2 != .cell) && (p.2 != .free || out.names.lookup p.1 == some .cell || out.names.lookup p.1 == some .free) && (p.2 != .local || sc.names.lookup p.1 == some .local))
    && N.all (fun y => sc.names.lookup y != some .local) && ts.all (fun y => sc.names.lookup y == some .local) && decide ((N ++ ts).Nodup)
structure CompSc (N ts : List Str) (out sc : Scope) : Prop where
  kind : sc.kind = .function
  nocell : ∀ p ∈ sc.names, p.2 ≠ .cell
  fr : ∀ p ∈ sc.names, p.2 = .free → out.names.lookup p.1 = some .cell ∨ out.names.lookup p.1 = some .free
  names : ∀ p ∈ sc.names, p.2 = .local → sc.names.lookup p.1 = some .local
  own : ∀ y ∈ N, sc.names.lookup y ≠ some .local
  tgt : ∀ y ∈ ts, sc.names.lookup y = some .local
  nd : (N ++ ts).Nodup
theorem compSc_of {N ts : List Str} {out sc : Scope} (h : compOk N ts out sc = true) : CompSc N ts out sc := by
  unfold compOk at h
  rw [Bool.and_eq_true, Bool.and_eq_true, Bool.and_eq_true, Bool.and_eq_true] at h
  obtain ⟨⟨⟨⟨h1, h2⟩, h3⟩, h4⟩, h5⟩ := h
  rw [List.all_eq_true] at h2 h3 h4
  refine ⟨eq_of_beq h1, fun p hp => ?_, fun p hp hf => ?_, fun p hp hl => ?_, fun y hy => ?_, fun y hy => ?_, of_decide_eq_true h5⟩
  · have := h2 p hp
    rw [Bool.and_eq_true, Bool.and_eq_true] at this
    simpa using this.1.1
  · have := h2 p hp
    rw [Bool.and_eq_true, Bool.and_eq_true] at this
    have q := this.1.2
    rw [hf] at q
    simpa using q
  · have := h2 p hp
    rw [Bool.and_eq_true, Bool.and_eq_true] at this
    have q := this.2
    rw [hl] at q
    simpa using q
  · simpa using h3 y hy
  · simpa using h4 y hy
def compCx (X : Cx) (ts : List Str) (sc : Scope) (cl : List (Str × Addr)) (C : Addr) (fp : List Addr) (s : Shared) (H : Hp) : Cx where
  prog := X.prog
  w := X.w
  K := X.K
  mg := X.mg
  base := X.base
  A := X.A
  N := X.N ++ ts
  s₀ := s
  H₀ := H
  env := compEnvC sc cl C X.env
  outer := X.stack
  stack := X.stack
  ex := fp
  fn := fun _ => false
  calm := X.calm
  pn := []
  xe := fun _ _ => False
section
variable {X : Cx} {pins : List (Addr × Obj)} {σ : St} {H : Hp} {s : Shared} {ts : List Str} {sc : Scope} {cl : List (Str × Addr)} {C D : Addr} {fp : List Addr}
theorem comp_kind (hS : CompSc X.N ts X.env.scope sc) {y : Str} (h : Vis (relabel sc X.env) y) : sc.names.lookup y = some .local ∨ (sc.names.lookup y = some .free ∧ ((relabel sc X.env).names.lookup y = some .cell ∨ (relabel sc X.env).names.lookup y = some .free)) := by
  have e := relabel_look (scope := sc) (env := X.env) y
  cases hk : sc.names.lookup y with
  | none =>
    rw [hk] at e
    have e' : (relabel sc X.env).names.lookup y = none := e
    rcases h with h | h | h <;> rw [e'] at h <;> cases h
  | some k =>
    have hm : (y, k) ∈ sc.names := PySem.mem_of_lookup hk
    rw [hk] at e
    cases k with
    | «local» => exact .inl rfl
    | cell => exact absurd rfl (hS.nocell _ hm)
    | free =>
      refine .inr ⟨rfl, ?_⟩
      rw [e, Option.map_some]
      by_cases hc : (NameKind.free == .free && X.env.scope.kind == .function && X.env.kindOf y == some .cell) = true
      · rw [if_pos hc]; exact .inl rfl
      · rw [if_neg hc]; exact .inr rfl
    | globalExplicit =>
      have e' : (relabel sc X.env).names.lookup y = some .globalExplicit := e
      rcases h with h | h | h <;> rw [e'] at h <;> cases h
    | globalImplicit =>
      have e' : (relabel sc X.env).names.lookup y = some .globalImplicit := e
      rcases h with h | h | h <;> rw [e'] at h <;> cases h
theorem comp_fp (I : Inv X pins σ H s) (hf : ∀ b ∈ fp, FpOk X pins H b) : ∀ b ∈ fp, b ∉ frs X.stack := fun b hb z => by
  obtain ⟨_, f1, f2, _⟩ := hf b hb
  rcases List.mem_cons.mp (I.stkSub b z) with e | e
  · exact f1 e
  · exact f2 e
theorem comp_in (I : Inv X pins σ H s) (hf : ∀ b ∈ fp, FpOk X pins H b) (hfo : ∀ b ∈ fp, ∃ o, s.heap.get? b = some o) (hS : CompSc X.N ts X.env.scope sc)
    (c1 : ∀ y c, cl.lookup y = some c → X.env.cells.lookup y = some c) (c2 : ∀ p ∈ sc.names, p.2 = .free → ∃ c, cl.lookup p.1 = some c)
    (hC : s.heap.objs.size ≤ C) (hD : s.heap.objs.size ≤ D) (hDC : D ≠ C) {h1 : Heap} {m : Str → Option Value} {n : Nat} {t : Nat} (k : ∀ b o, s.heap.get? b = some o → h1.get? b = some o) (hn : h1.Ns C m)
    (hd : h1.get? D = some { cls := .type "list", data := .seq ([] : List Value).toArray n }) :
    Inv (compCx X ts sc cl C fp s H) [] (σ ++ ts.map fun _ => none) (upd H D (.lst [])) { s with heap := h1, toks := t } := by
  have sz := I.sz
  have fpne : ∀ b ∈ fp, b < s.heap.objs.size := fun b hb => by obtain ⟨o, e⟩ := hfo b hb; exact Heap.lt_size e
  have cne : ∀ y c, cl.lookup y = some c → c < s.heap.objs.size := fun y c e => by obtain ⟨v, q⟩ := I.cell y c (c1 y c e); exact q.lt
  have ok : (compCx X ts sc cl C fp s H).Ok := by
    refine ⟨I.ok.mod, hS.kind, I.ok.glob, I.ok.blt, hC, fun x y c e1 e2 => I.ok.inj x y c (c1 x c e1) (c1 y c e2), fun x hx => ?_, fun x c hx => absurd hx (by simp [compCx]), I.ok.hd, I.ok.frames, .inl rfl, fun b hb => ?_, fun b o e => I.bs b o e,
      Nat.le_trans I.ok.bsz sz, fun b o e hb => ?_, comp_fp I hf, I.stack, fun b hb => I.stkFree b hb⟩
    · have hv : Vis (relabel sc X.env) x := by
        rcases hx with hx | hx
        · exact .inr (.inl hx)
        · exact .inr (.inr hx)
      rcases comp_kind hS hv with z | ⟨z, _⟩
      · have e := relabel_look (scope := sc) (env := X.env) x
        rw [z] at e
        have e' : (relabel sc X.env).names.lookup x = some .local := e
        have hx' : (relabel sc X.env).names.lookup x = some .cell ∨ (relabel sc X.env).names.lookup x = some .free := hx
        rw [e'] at hx'
        rcases hx' with q | q <;> cases q
      · exact c2 _ (PySem.mem_of_lookup z) rfl
    · exact ⟨fun e => absurd (Nat.lt_of_lt_of_le (fpne b hb) hC) (by have e' : b = C := e; rw [e']; exact Nat.lt_irrefl _), fun x c e z => (hf b hb).2.2.2.2.1 x c (c1 x c e) z⟩
    · rcases (hf b hb).2.2.2.1 with z | z
      · exact I.ok.noex b o e z
      · exact absurd (Nat.lt_of_lt_of_le (Heap.lt_size e) (Nat.le_trans I.ok.bsz z)) (Nat.lt_irrefl _)
  have hnD : H D = none := I.hok.fresh hD
  refine ⟨ok, rfl, I.bare, Un.laid k hD hnD, ⟨m, hn, fun i x v e1 e2 e3 => ?_⟩, fun x c e => ?_, ?_, fun x c e => ?_, fun p hp => absurd (show p ∈ ([] : List (Addr × Obj)) from hp) (by simp), I.hok.laid k hD ⟨Nat.zero_le _, [], n, .nil, hd⟩, ?_⟩
  · have hi : i < σ.length := by
      by_cases hi : i < σ.length
      · exact hi
      · rw [List.getElem?_append_right (by omega), List.getElem?_map] at e2
        cases q : ts[i - σ.length]? with
        | none => rw [q] at e2; cases e2
        | some a => rw [q] at e2; cases e2
    have e2' : σ[i]? = some (some v) := by rw [List.getElem?_append_left hi] at e2; exact e2
    have e1' : X.N[i]? = some x := by
      have e1'' : (X.N ++ ts)[i]? = some x := e1
      rw [List.getElem?_append_left (by rw [← I.len]; exact hi)] at e1''
      exact e1''
    rcases comp_kind hS e3 with z | ⟨z, zr⟩
    · exact absurd z (hS.own x (List.mem_of_getElem? e1'))
    · have hm := PySem.mem_of_lookup z
      have ho := hS.fr _ hm rfl
      obtain ⟨m0, _, hl⟩ := I.loc
      obtain ⟨u, r, l⟩ := hl i x v e1' e2' (.inr ho)
      obtain ⟨c', hc'⟩ := c2 _ hm rfl
      rcases l with ⟨l, _⟩ | ⟨_, c, hc, z2⟩
      · have l' : X.env.scope.names.lookup x = some .local := l
        rw [l'] at ho
        rcases ho with q | q <;> cases q
      · have ec := c1 x c' hc'
        rw [hc] at ec
        cases ec
        exact ⟨u, r, .inr ⟨zr, _, hc', z2.keeps k⟩⟩
  · obtain ⟨v, z⟩ := I.cell x c (c1 x c e)
    exact ⟨v, z.keeps k⟩
  · show upd H D (.lst []) C = none
    rw [upd_ne (Ne.symm hDC)]
    exact I.hok.fresh hC
  · show upd H D (.lst []) c = none
    rw [upd_ne (Nat.ne_of_lt (Nat.lt_of_lt_of_le (cne x c e) hD))]
    exact I.freeC x c (c1 x c e)
  · show (σ ++ ts.map fun _ => none).length = (X.N ++ ts).length
    rw [List.length_append, List.length_append, List.length_map, I.len]
theorem comp_out (I : Inv X pins σ H s) (hf : ∀ b ∈ fp, FpOk X pins H b) {pins' : List (Addr × Obj)} {σ' : St} {H' : Hp} {s' : Shared} (J : Inv (compCx X ts sc cl C fp s H) pins' σ' H' s') : Inv X pins σ H' s' :=
  I.call' J.os J.base J.hok J.bare fun b hb => by
    obtain ⟨_, f1, _, f3, f4, f5⟩ := hf b hb
    exact ⟨f3, f1, f4, f5⟩
end
end L2
set_option Elab.async false
set_option linter.all false
set_option maxRecDepth 100000
set_option maxHeartbeats 4000000
namespace L2
open PySem PySem.Spec PyProof.Rows
section
variable {prog : Program} {w : World} {A : Around} {R : Result → Shared → Prop} {s : Shared}
theorem codeAny_compLoop_go {elt target iter : Expr} {ifs : List Expr} {scope : Scope} {pos : Pos} {it acc : Value} {env : Env} (I : Nat → Shared → Prop)
    (turn : ∀ n s, I n s → wpAny (model prog w) A (pyNext it) (fun r s₁ => match r with
      | none => R (.ok .next) s₁
      | some v => wpAny (model prog w) A (letOwnedTupleGo target it v) (fun _ s₁' => wpAny (model prog w) A (assign target env v) (fun _ s₂ =>
          wpAny (model prog w) A (forIn ifs true fun c r => if r = true then do let ok ← isTrue c env (eval c env); pure (ForInStep.yield ok) else pure (ForInStep.yield r)) (fun ok s₃ =>
            if ok = true then wpAny (model prog w) A (eval elt env) (fun x s₄ =>
              wpAny (model prog w) A (call (.builtin "list.append") [acc, x]) (fun _ s₅ => ∃ m, m < n ∧ I m s₅) (notedBy (model prog w) A env fun e s' => R (.error e) s') s₄) (notedBy (model prog w) A env fun e s' => R (.error e) s') s₃
            else ∃ m, m < n ∧ I m s₃) (notedBy (model prog w) A env fun e s' => R (.error e) s') s₂) (notedBy (model prog w) A env fun e s' => R (.error e) s') s₁')
          (notedBy (model prog w) A env fun e s' => R (.error e) s') s₁) (notedBy (model prog w) A env fun e s' => R (.error e) s') s)
    (n : Nat) (h : I n s) : codeAny (model prog w) A (.compLoop (.ListComp elt [⟨target, iter, ifs, 0⟩] scope pos) 0 it acc env) R s := by
  refine codeAny_loop rfl I (fun n s hI => ?_) n h
  show wpAny _ A ((compTurn (.ListComp elt [⟨target, iter, ifs, 0⟩] scope pos) 0 it acc env).onRaise (fun x => do noteFrame x env; theTreesLotGoes x)) _ _ s
  refine wpAny_noted ?_
  rw [compTurn_list]
  refine wpAny_bind (wpAny_standAt (wpAny_bind (wpAny_mono (turn n s hI) (fun r s₁ h₁ => ?_) fun _ _ h' => h')))
  cases r with
  | none => exact wpAny_pure h₁
  | some v =>
    refine wpAny_bind (wpAny_mono h₁ (fun _ s₁' h₁' => ?_) fun _ _ h' => h')
    refine wpAny_bind (wpAny_mono h₁' (fun _ s₂ h₂ => wpAny_bind (wpAny_mono h₂ (fun ok s₃ h₃ => ?_) fun _ _ h' => h')) fun _ _ h' => h')
    cases ok with
    | false => exact wpAny_pure ⟨rfl, h₃⟩
    | true =>
      exact wpAny_bind (wpAny_bind (wpAny_mono h₃ (fun x s₄ h₄ => wpAny_bind (wpAny_mono h₄ (fun _ s₅ h₅ => wpAny_pure (wpAny_pure ⟨rfl, h₅⟩)) fun _ _ h' => h')) fun _ _ h' => h'))
end
def PTs (X : Cx) (ifs : List Expr) (t : TT) : Prop :=
  ∀ (pins : List (Addr × Obj)) (s : Shared) (σ : St) (H : Hp) (Q : Bool → Hp → Prop), Inv X pins σ H s → t σ H Q →
    wpAny (model X.prog X.w) X.A (forIn ifs true fun c r => if r = true then do let ok ← isTrue c X.env (eval c X.env); pure (ForInStep.yield ok) else pure (ForInStep.yield r)) (TP X pins σ Q) X.xe s
def tYes : TT := fun _ H Q => Q true H
theorem pts_nil {X : Cx} : PTs X [] tYes := fun _ _ _ H _ I h => wpAny_tests_nil ⟨H, I, h⟩
def CompW (J : It) (g : TG) (tt : TT) (te : TE) (n : Nat) (σ : St) (D : Addr) (Q : Hp → Prop) (H1 : Hp) : Prop :=
  ∃ W : Nat → Nat → List V → Hp → Prop, (∃ m, W 0 m [] (upd H1 D (.lst []))) ∧ ∀ i m acc H2, W i m acc H2 → H2 D = some (.lst acc) ∧
    ((J.stop i H2 ∧ Q H2) ∨ (J.go i H2 ∧ acc.length < sizeLine ∧ ∀ x H3, J.yld i H2 x H3 → g x (σ ++ List.replicate n none) H3 fun σ4 H4 => (σ4.length = σ.length + n ∧ ∀ (i : Nat) v, σ[i]? = some (some v) → σ4[i]? = some (some v)) ∧
      tt σ4 H4 fun b H5 => if b = true then te σ4 H5 fun y H6 => H6 D = some (.lst acc) ∧ ∃ m', m' < m ∧ W (i + 1) m' (acc ++ [y]) (upd H6 D (.lst (acc ++ [y]))) else ∃ m', m' < m ∧ W (i + 1) m' acc H5))
section
variable {X : Cx} {pins : List (Addr × Obj)} {σ : St} {H : Hp} {s : Shared} {ts : List Str} {sc : Scope} {cl : List (Str × Addr)} {fp : List Addr}
theorem weak_none {Y : Cx} {pl : List (Addr × Obj)} {σ4 : St} {H' : Hp} {s' : Shared} {n : Nat} (I : Inv Y pl σ4 H' s') (hl : σ4.length = σ.length + n) (hs : ∀ (i : Nat) v, σ[i]? = some (some v) → σ4[i]? = some (some v)) :
    Inv Y pl (σ ++ List.replicate n none) H' s' := by
  refine I.weak (by rw [List.length_append, List.length_replicate, hl]) fun i v e => ?_
  by_cases hi : i < σ.length
  · rw [List.getElem?_append_left hi] at e
    exact hs i v e
  · rw [List.getElem?_append_right (by omega), List.getElem?_replicate] at e
    split at e <;> cases e
theorem comp_run {elt iter tg : Expr} {ifs : List Expr} {pos : Pos} {it : Addr} {tn : Nat → Heap → Prop} {J : It} {g : TG} {tt : TT} {te : TE} {Q : Hp → Prop} {RR : Value → Addr → Result → Shared → Prop} {E : Value → Shared → Prop}
    (hc : X.calm = true) (I : Inv X pins σ H s) (T : Turn X.prog X.w X.K tg J fp it tn) (st : tn 0 s.heap) (hf : ∀ b ∈ fp, FpOk X pins H b) (hS : CompSc X.N ts X.env.scope sc)
    (c1 : ∀ y c, cl.lookup y = some c → X.env.cells.lookup y = some c) (c2 : ∀ p ∈ sc.names, p.2 = .free → ∃ c, cl.lookup p.1 = some c)
    (hg : ∀ C, PG (compCx X ts sc cl C fp s H) tg g) (ht : ∀ C, PTs (compCx X ts sc cl C fp s H) ifs tt) (he : ∀ C, PE (compCx X ts sc cl C fp s H) elt te)
    (hw : CompW J g tt te ts.length σ s.heap.objs.size Q H)
    (fin : ∀ (C : Addr) (H' : Hp) (s' : Shared) (σ' : St), s.heap.objs.size ≤ C → Inv (compCx X ts sc cl C fp s H) [] σ' H' s' → Q H' → RR (.ref s.heap.objs.size) C (.ok .next) s') :
    wpAny (model X.prog X.w) X.A (newList []) (fun acc s₃ => wpAny (model X.prog X.w) X.A (newFunctionEnv sc X.env.globals cl [] X.env.qual none .none (some X.env)) (fun cenv s₄ =>
      codeAny (model X.prog X.w) X.A (.compStart (.ListComp elt [⟨tg, iter, ifs, 0⟩] sc pos) 0 (.ref it) acc { cenv with scope := relabel sc X.env }) (RR acc cenv.locals) s₄) E s₃) E s := by
  obtain ⟨W, ⟨m0, w0⟩, turn⟩ := hw
  have obj0 := T.obj 0 _ st
  have hfo : ∀ b ∈ fp, ∃ o, s.heap.get? b = some o := fun b hb => let ⟨o, e, _⟩ := obj0 b hb; ⟨o, e⟩
  refine wpAny_newObj_type (wpAny_newFunctionEnv hS.nocell (by intro y hy; simp at hy) (fun h₁ hns₁ hsb₁ => ?_) hS.kind)
  dsimp only at hns₁ hsb₁ ⊢
  generalize hH2 : s.heap.push { cls := .type "list", dict := none, data := .seq ([] : List Value).toArray } = H2 at hns₁ hsb₁ ⊢
  have hC : H2.objs.size = s.heap.objs.size + 1 := by rw [← hH2, Heap.size_push]
  have hDC : s.heap.objs.size ≠ H2.objs.size := by rw [hC]; exact Nat.ne_of_lt (Nat.lt_succ_self _)
  have hCle : s.heap.objs.size ≤ H2.objs.size := by rw [hC]; exact Nat.le_succ _
  have below : ∀ b, b < s.heap.objs.size → b ≠ H2.objs.size ∧ b ≠ s.heap.objs.size := fun b hb => ⟨by rw [hC]; exact Nat.ne_of_lt (Nat.lt_succ_of_lt hb), Nat.ne_of_lt hb⟩
  have old : ∀ b o, s.heap.get? b = some o → h₁.get? b = some o := fun b o e => hsb₁.extBut b o (below b (Heap.lt_size e)).1 (Heap.get?_push_of_some _ (hH2 ▸ Heap.get?_push_of_some _ e))
  have hacc : h₁.get? s.heap.objs.size = some { cls := .type "list", data := .seq ([] : List Value).toArray } := hsb₁.extBut _ _ hDC (Heap.get?_push_of_some _ (hH2 ▸ Heap.get?_push_size _ rfl))
  have hst₁ : tn 0 h₁ := T.keep _ _ _ st fun b hb o e => old b o e
  have fresh : H s.heap.objs.size = none := I.hok.fresh (Nat.le_refl _)
  have fps : ∀ {H' : Hp}, (∀ b ∈ fp, H' b = none) → ∀ b ∈ fp, FpOk (compCx X ts sc cl H2.objs.size fp s H) [] H' b := fun {H'} hn b hb => by
    obtain ⟨o, e⟩ := hfo b hb
    refine ⟨hn b hb, fun z => ?_, comp_fp I hf b hb, .inl hb, fun x c e z => (hf b hb).2.2.2.2.1 x c (c1 x c e) z, fun p hp => absurd (show p ∈ ([] : List (Addr × Obj)) from hp) (by simp)⟩
    have z' : b = H2.objs.size := z
    exact (below b (Heap.lt_size e)).1 z'
  have fp0 : ∀ b ∈ fp, (upd H s.heap.objs.size (.lst [])) b = none := fun b hb => by
    obtain ⟨o, e⟩ := hfo b hb
    rw [upd_ne (Nat.ne_of_lt (Heap.lt_size e))]
    exact (hf b hb).1
  have eN : (ts.map fun _ => (none : Option V)) = List.replicate ts.length none := List.map_const'
  have loop : ∀ s₃ : Shared, s₃ = { s with heap := h₁, toks := s.toks + ([] : List (Str × Value)).length } →
      codeAny (model X.prog X.w) X.A (.compLoop (.ListComp elt [⟨tg, iter, ifs, 0⟩] sc pos) 0 (.ref it) (.ref s.heap.objs.size) (compEnvC sc cl H2.objs.size X.env)) (RR (.ref s.heap.objs.size) H2.objs.size) s₃ := by
    rintro s₃ rfl
    have J0 := comp_in (ts := ts) (t := s.toks + ([] : List (Str × Value)).length) I hf hfo hS c1 c2 hCle (Nat.le_refl _) hDC old hns₁ hacc
    rw [eN] at J0
    refine codeAny_compLoop_go (fun n s' => ∃ i acc H', Inv (compCx X ts sc cl H2.objs.size fp s H) [] (σ ++ List.replicate ts.length none) H' s' ∧ tn i s'.heap ∧ (∀ b ∈ fp, H' b = none) ∧ W i n acc H') ?_ m0 ⟨0, [], _, J0, hst₁, fp0, w0⟩
    rintro n s3 ⟨i, acc, H3, J3, st3, fr3, w3⟩
    obtain ⟨hD3, alt⟩ := turn i n acc H3 w3
    rcases alt with ⟨stop, q⟩ | ⟨go, hz, step⟩
    · refine thn (T.done (compCx X ts sc cl H2.objs.size fp s H) rfl rfl rfl hc i [] s3 _ H3 _ J3 (fps fr3) st3 stop) fun r s4 ⟨hr, J4⟩ => ?_
      subst hr
      exact fin _ H3 s4 _ hCle J4 q
    · refine thn (T.item (compCx X ts sc cl H2.objs.size fp s H) rfl rfl rfl hc i [] s3 _ H3 _ J3 (fps fr3) st3 go) fun r s4 ⟨u, hr, h4⟩ => ?_
      subst hr
      refine thn h4 fun _ s5 ⟨x, H5, J5, r5, y5, st5, fr5⟩ => ?_
      have J5' := J5.pinned (fps fr5) (T.obj _ _ st5)
      have again : ∀ {σ7 : St} {H7 : Hp} {s7 : Shared}, Inv (compCx X ts sc cl H2.objs.size fp s H) ([] ++ pinsAt fp s5.heap) σ7 H7 s7 → (σ7.length = σ.length + ts.length ∧ ∀ (i : Nat) v, σ[i]? = some (some v) → σ7[i]? = some (some v)) → ∀ acc' m', W (i + 1) m' acc' H7 → m' < n →
          ∃ m, m < n ∧ ∃ i acc H', Inv (compCx X ts sc cl H2.objs.size fp s H) [] (σ ++ List.replicate ts.length none) H' s7 ∧ tn i s7.heap ∧ (∀ b ∈ fp, H' b = none) ∧ W i m acc H' := fun {σ7 H7 s7} I7 hσ acc' m' w7 hm => by
        refine ⟨m', hm, i + 1, acc', H7, weak_none I7.unpinned hσ.1 hσ.2, T.keep _ _ _ st5 fun b hb o e => (I7.pin (b, o) (List.mem_append_right _ (List.mem_append_right _ (mem_pinsAt hb e)))).1, fun b hb => ?_, w7⟩
        obtain ⟨o, e, d⟩ := T.obj _ _ st5 b hb
        exact (I7.pin (b, o) (List.mem_append_right _ (List.mem_append_right _ (mem_pinsAt hb e)))).2.1
      refine wpAny_mono (hg H2.objs.size _ s5 _ H5 x u _ J5' r5 (step x H5 y5)) (fun _ s6 ⟨σ6, H6, J6, hσ, q6⟩ => ?_) fun _ _ z => False.elim z
      refine wpAny_mono (ht H2.objs.size _ s6 σ6 H6 _ J6 q6) (fun b s7 ⟨H7, J7, q7⟩ => ?_) fun _ _ z => False.elim z
      cases b with
      | false =>
        obtain ⟨m', hm, w7⟩ := q7
        exact again J7 hσ acc m' w7 hm
      | true =>
        show wpAny _ _ _ _ _ _
        refine wpAny_mono (he H2.objs.size _ s7 σ6 H7 _ J7 q7) (fun y s8 ⟨yv, H8, J8, ry, hD8, m', hm, w8⟩ => ?_) fun _ _ z => False.elim z
        refine wpAny_mono (mt_append (X := compCx X ts sc cl H2.objs.size fp s H) _ s8 σ6 H8 (.ref s.heap.objs.size) [yv] (.ref s.heap.objs.size) [y] (fun v H9 => v = .non ∧ H9 = upd H8 s.heap.objs.size (.lst (acc ++ [yv]))) J8 rfl (.cons ry .nil) ⟨_, acc, yv, rfl, rfl, hD8, hz, rfl, rfl⟩) (fun v9 s9 ⟨v, H9, J9, _, _, e9⟩ => ?_) fun _ _ z => False.elim z
        subst e9
        exact again J9 hσ (acc ++ [yv]) m' w8 hm
  exact codeAny_compStart_list (loop _ rfl) (T.self _ 0 _ _ _ hst₁ (loop _ rfl))
def tComp (n : Nat) (wi : TI) (g : TG) (tt : TT) (te : TE) : TE := fun σ H Q => wi σ H fun J H1 => ∀ D, H1 D = none → CompW J g tt te n σ D (Q (.ref D)) H1
theorem comp_has (I : Inv X pins σ H s) (hS : CompSc X.N ts X.env.scope sc) : ∀ p ∈ sc.names, p.2 = .free → ∃ c, X.env.cells.lookup p.1 = some c := fun p hp hf => by
  rcases hS.fr p hp hf with z | z
  · exact I.ok.has p.1 (.inl z)
  · exact I.ok.has p.1 (.inr z)
theorem pe_comp {elt iter tg : Expr} {ifs : List Expr} {pos : Pos} {wi : TI} {g : TG} {tt : TT} {te : TE} (hc : X.calm = true) (hS : compOk X.N ts X.env.scope sc = true) (hi : PI X tg iter wi)
    (hg : ∀ cl C fp s H, PG (compCx X ts sc cl C fp s H) tg g) (ht : ∀ cl C fp s H, PTs (compCx X ts sc cl C fp s H) ifs tt) (he : ∀ cl C fp s H, PE (compCx X ts sc cl C fp s H) elt te)
    (hs : ∀ x, foldedSetIterable iter X.env x = pure x := by intro _; rfl) : PE X (.ListComp elt [⟨tg, iter, ifs, 0⟩] sc pos) (tComp ts.length wi g tt te) := by
  intro pins s σ H Q I h
  have S := compSc_of hS
  obtain ⟨cl, hcl, c1, c2⟩ := closureFor_pure (comp_has I S)
  rw [eval_ListComp]
  refine wpAny_comprehension_free (use := none) rfl hs hcl S.kind S.names ?_
  refine thn (hi pins s σ H _ I h) fun v s1 h1 => thn h1 fun itv s2 h2 => ?_
  obtain ⟨it, fp, tn, J, H2, e, I2, T, st2, f2, q2⟩ := h2
  subst e
  refine comp_run (E := X.xe) (RR := fun acc C => compPost (model X.prog X.w) X.A X.xe none (EP X pins σ Q) acc C) hc I2 T st2 f2 S c1 c2 (fun C => hg cl C fp s2 H2) (fun C => ht cl C fp s2 H2) (fun C => he cl C fp s2 H2) (q2 _ (I2.hok.fresh (Nat.le_refl _))) ?_
  intro C H' s' σ' hC J' q'
  obtain ⟨m, hn, _⟩ := J'.loc
  refine ⟨m, hn, fun h' sb => ?_⟩
  have I' := comp_out I2 f2 J'
  have fk := I2.fpOk (H' := H') hC J'.free
  obtain ⟨f0, f1, _, f3, f4, f5⟩ := fk
  exact ⟨.ref _, H', I'.turned (t' := s'.toks) (fun b o hb e => (sb.2 b hb).trans e) f0 f1 f3 f4 f5, rfl, q'⟩
end
end L2
set_option Elab.async false
set_option linter.all false
set_option maxRecDepth 100000
set_option maxHeartbeats 4000000
namespace L2
open PySem PySem.Spec PyProof.Rows
def Its (x : Str) : It := ⟨fun i _ => i < x.cps.size, fun i H v H' => H' = H ∧ ∃ c, x.cps[i]? = some c ∧ v = .str ⟨#[c]⟩, fun i _ => x.cps.size ≤ i⟩
theorem strIter_cases (x : Str) : (strIterType x = "str_ascii_iterator") ∨ (strIterType x = "str_iterator") := by
  unfold strIterType
  cases x.cps.all (· < 128)
  · exact .inr rfl
  · exact .inl rfl
theorem turn_str {P : Program} {w : World} {K : PySem.W.Frag} {tg : Expr} (x : Str) (t : Tok) (it : Addr) : Turn P w K tg (Its x) [it] it (fun i h => h.IsStrIter it (strIterType x) x t i) where
  mem := by simp
  obj := fun i h st b hb => by
    have e : b = it := by simpa using hb
    subst e
    obtain ⟨o, e, c, d⟩ := st
    exact ⟨o, e, fun v z => by rw [d] at z; cases z⟩
  keep := fun i h h' st k => by
    obtain ⟨o, e, c, d⟩ := st
    exact ⟨o, k it (by simp) o e, c, d⟩
  item := by
    intro X hP hw hK hc i pins s σ H E I hf st hg
    subst hP hw hK
    obtain ⟨f0, f1, f2, f3, f4, f5⟩ := hf it (by simp)
    have hi : i < x.cps.size := hg
    have hx : x.cps[i]? = some x.cps[i] := by simp [hi]
    have fin : ∀ h', h'.IsStrIter it (strIterType x) x t (i + 1) → Heap.SameBut it s.heap h' → ∃ u, (some (Value.str ⟨#[x.cps[i]]⟩ s.toks) : Option Value) = some u ∧
        wpAny (model X.prog X.w) X.A (letOwnedTupleGo tg (.ref it) u) (fun _ s2 => ∃ y H', Inv X pins σ H' s2 ∧ RelV y u ∧ (Its x).yld i H y H' ∧ Heap.IsStrIter s2.heap it (strIterType x) x t (i + 1) ∧ ∀ b ∈ [it], H' b = none) E { s with heap := h', toks := s.toks + 1 } := fun h' st' sb => by
      have I1 : Inv X pins σ H { s with heap := h', toks := s.toks + 1 } := I.turned (t' := s.toks + 1) (fun b o hb e => (sb.2 b hb).trans e) f0 f1 f3 f4 f5
      obtain ⟨o, e, c, d⟩ := id st'
      refine ⟨_, rfl, go_of (s := { s with heap := h', toks := s.toks + 1 }) e c d ?_ ⟨.str ⟨#[x.cps[i]]⟩, H, I1, ⟨_, rfl⟩, ⟨rfl, _, hx, rfl⟩, st', fun b hb => (hf b hb).1⟩⟩
      rcases strIter_cases x with z | z <;> rw [z] <;> decide
    rcases strIter_cases x with z | z
    · rw [z] at st fin
      refine wpAny_pyNext_ascii_item st hx fun h' st' sb => ?_
      have := fin h' st' sb
      rw [← z] at this
      simpa [z] using this
    · rw [z] at st fin
      refine wpAny_pyNext_wide_item st hx fun h' st' sb => ?_
      have := fin h' st' sb
      simpa [z] using this
  done := by
    intro X hP hw hK hc i pins s σ H E I hf st hg
    subst hP hw hK
    obtain ⟨f0, f1, f2, f3, f4, f5⟩ := hf it (by simp)
    have hi : x.cps.size ≤ i := hg
    have hx : x.cps[i]? = none := by simp [hi]
    rcases strIter_cases x with z | z
    · rw [z] at st
      exact wpAny_pyNext_ascii_end (I.ok.hd hc) st hx fun h' eb => ⟨rfl, I.turned (t' := s.toks) (fun b o hb e => eb b o hb e) f0 f1 f3 f4 f5⟩
    · rw [z] at st
      exact wpAny_pyNext_wide_end (I.ok.hd hc) st hx fun h' eb => ⟨rfl, I.turned (t' := s.toks) (fun b o hb e => eb b o hb e) f0 f1 f3 f4 f5⟩
  self := fun A i s Q E st h => by
    rcases strIter_cases x with z | z
    · rw [z] at st; exact wpAny_pyIter_striter_ascii st h
    · rw [z] at st; exact wpAny_pyIter_striter_wide st h
section
variable {X : Cx} {tg : Expr}
def rSlS : V → Option Int → Option Int → Hp → VK → Prop := fun x lo hi H Q => ∃ z, x = .str z ∧ z.length ≤ sizeLine ∧ Q (.str (Txt.slice z lo hi)) H
theorem sl_str : SlR X rSlS := by
  intro pins s σ H x v vl vu lo hi sl Q I rx hs pl pu h
  obtain ⟨z, rfl, hz, q⟩ := h
  obtain ⟨t, rfl⟩ := rx
  obtain ⟨o, e, c, d⟩ := hs
  refine ⟨"str", _, slot_str_getitem.lookup, typeIs_str _ _ _, ?_⟩
  cases pl with
  | none =>
    cases pu with
    | none => exact wpAny_getItem_str_slice (l := none) (u := none) (st := none) ⟨o, e, c, d⟩ rfl (post_val_or_str ⟨Nat.le_trans (Txt.slice_le z _ _) hz, fun t' k => ⟨.str _, H, I.tok _, ⟨_, rfl⟩, q⟩⟩)
    | int j tj => exact wpAny_getItem_str_slice (l := none) (u := some (j, tj)) (st := none) ⟨o, e, c, d⟩ rfl (post_val_or_str ⟨Nat.le_trans (Txt.slice_le z _ _) hz, fun t' k => ⟨.str _, H, I.tok _, ⟨_, rfl⟩, q⟩⟩)
  | int i ti =>
    cases pu with
    | none => exact wpAny_getItem_str_slice (l := some (i, ti)) (u := none) (st := none) ⟨o, e, c, d⟩ rfl (post_val_or_str ⟨Nat.le_trans (Txt.slice_le z _ _) hz, fun t' k => ⟨.str _, H, I.tok _, ⟨_, rfl⟩, q⟩⟩)
    | int j tj => exact wpAny_getItem_str_slice (l := some (i, ti)) (u := some (j, tj)) (st := none) ⟨o, e, c, d⟩ rfl (post_val_or_str ⟨Nat.le_trans (Txt.slice_le z _ _) hz, fun t' k => ⟨.str _, H, I.tok _, ⟨_, rfl⟩, q⟩⟩)
end
end L2
set_option Elab.async false
set_option linter.all false
set_option maxRecDepth 100000
set_option maxHeartbeats 4000000
namespace L2
open PySem PySem.Spec PyProof.Rows
def Walk (J : It) (H1 : Hp) (xs : List V) : Prop := ∀ (i : Nat) H', Same H1 H' → (∀ x, xs[i]? = some x → J.go i H') ∧ (xs.length ≤ i → J.stop i H') ∧ (i < xs.length → ∀ x H'', J.yld i H' x H'' → H'' = H' ∧ xs[i]? = some x)
theorem CompW.map {J : It} {tt : TT} {te : TE} {σ : St} {D : Addr} {Q : Hp → Prop} {H1 : Hp} {k : Nat} (xs : List V) (p : V → Bool) (f : V → V) (hk : k = σ.length) (hD : H1 D = none) (hz : xs.length ≤ sizeLine) (hJ : Walk J H1 xs)
    (ht : ∀ (i : Nat) x H' R, xs[i]? = some x → Same H1 H' → (∀ H'', Same H' H'' → R (p x) H'') → tt (σ ++ [some x]) H' R)
    (he : ∀ (i : Nat) x H' R, xs[i]? = some x → p x = true → Same H1 H' → (∀ H'', Same H' H'' → R (f x) H'') → te (σ ++ [some x]) H' R)
    (hq : ∀ H', Same H1 H' → H' D = some (.lst ((xs.filter p).map f)) → Q H') : CompW J (gName k) tt te 1 σ D Q H1 := by
  subst hk
  refine ⟨fun i m acc H2 => i ≤ xs.length ∧ m = xs.length - i ∧ acc = ((xs.take i).filter p).map f ∧ Same H1 H2 ∧ H2 D = some (.lst acc), ⟨xs.length, Nat.zero_le _, rfl, by simp, fun b o e => ?_, upd_same⟩, ?_⟩
  · rw [upd_ne (ne_of_none e hD)]; exact e
  · rintro i m acc H2 ⟨hi, rfl, rfl, s2, hD2⟩
    refine ⟨hD2, ?_⟩
    obtain ⟨j1, j2, j3⟩ := hJ i H2 s2
    by_cases hlt : i < xs.length
    · refine .inr ⟨j1 xs[i] (by simp [hlt]), ?_, fun x H3 y => ?_⟩
      · have h1 : (((xs.take i).filter p).map f).length ≤ i := by
          rw [List.length_map]
          refine Nat.le_trans (List.length_filter_le _ _) ?_
          rw [List.length_take]; omega
        omega
      · obtain ⟨e3, hx⟩ := j3 hlt x H3 y
        subst e3
        have eσ : (σ ++ List.replicate 1 none).set σ.length (some x) = σ ++ [some x] := by
          rw [List.set_append_right _ _ (Nat.le_refl _), Nat.sub_self]; rfl
        show (((σ ++ List.replicate 1 none).set σ.length (some x)).length = σ.length + 1 ∧ _) ∧ _
        rw [eσ]
        refine ⟨⟨by simp, fun i v h => ?_⟩, ?_⟩
        · have hi' := (List.getElem?_eq_some_iff.mp h).1
          rw [List.getElem?_append_left hi']; exact h
        refine ht i x H3 _ hx s2 fun H5 s5 => ?_
        have etk : (xs.take (i + 1)).filter p = (xs.take i).filter p ++ (if p x then [x] else []) := take_succ_filter p xs i x hx
        cases hp : p x with
        | false =>
          rw [if_neg Bool.false_ne_true]
          refine ⟨xs.length - (i + 1), by omega, hlt, rfl, ?_, s2.trans s5, s5 _ _ hD2⟩
          rw [etk, hp]; simp
        | true =>
          rw [if_pos rfl]
          refine he i x H5 _ hx hp (s2.trans s5) fun H6 s6 => ?_
          refine ⟨s6 _ _ (s5 _ _ hD2), xs.length - (i + 1), by omega, hlt, rfl, ?_, fun b o e => ?_, upd_same⟩
          · rw [etk, hp]; simp
          · rw [upd_ne (ne_of_none e hD)]; exact s6 _ _ (s5 _ _ (s2 _ _ e))
    · have e : i = xs.length := by omega
      subst e
      refine .inl ⟨j2 (Nat.le_refl _), hq H2 s2 ?_⟩
      rw [hD2, List.take_length]
theorem same_upd {H : Hp} {D : Addr} {o : HO} (h : H D = none) : Same H (upd H D o) := fun b u e => by rw [upd_ne (ne_of_none e h)]; exact e
end L2
set_option Elab.async false
set_option linter.all false
set_option maxRecDepth 100000
set_option maxHeartbeats 4000000
namespace L2
open PySem PySem.Spec PyProof.Rows
section
variable {X : Cx} {pins : List (Addr × Obj)} {σ : St} {H H' : Hp} {s : Shared} {h' : Heap}
end
section
variable {X : Cx}
end
end L2
set_option Elab.async false
set_option linter.all false
set_option maxRecDepth 100000
set_option maxHeartbeats 4000000
namespace L2
open PySem PySem.Spec PyProof.Rows
section
variable {X : Cx}
end
end L2
set_option Elab.async false
set_option linter.all false
set_option maxRecDepth 100000
namespace K01
open PySem Builtin Builtin.Str
def letters : Str := "abcdefghijklmnopqrstuvwxyz"
def inL (c : Nat) : Bool := !(occurrences letters ⟨#[c]⟩ 0 letters.length 1).isEmpty
def nameS (x : Str) : Bool := decide (1 ≤ (x.length : Int)) && (decide ((x.length : Int) ≤ 8) && x.cps.toList.all inL)
theorem name_letters {x : Str} (h : nameS x = true) : x.cps.toList.all inL = true := by
  unfold nameS at h
  rw [Bool.and_eq_true, Bool.and_eq_true] at h
  exact h.2.2
end K01
set_option Elab.async false
set_option linter.all false
set_option maxRecDepth 100000
set_option maxHeartbeats 4000000
namespace VT
open PySem PySem.Spec PyProof.Rows L2
abbrev St := L2.St
inductive T where
  | non | bl (b : Bool) | int (i : Int) | str (x : Str) | tup (l : List T) | lst (l : List T) | dk (ks : List Key) (vs : List T) | dt (ks : List (List Key)) (vs : List T) | df (o : Obj) (ks : List (List Key)) (vs : List T) | ins (C : Addr) (ns : List Str) (vs : List T) | pin (a : Addr) (t : T) | ob (a : Addr) | ty (n : String)
def LsAt (K : PySem.W.Frag) (H : Hp) (O : List Addr) (a : Addr) (vs : List V) : Prop :=
  (Rd H a (.lst vs) ∧ a ∉ O) ∨ ∃ (o : Obj) (its : Array Value) (n : Nat), K.lookup a = some o ∧ o.cls = .type "list" ∧ o.dict = none ∧ o.data = .seq its n ∧ its.size ≤ sizeLine ∧ Vals vs its.toList
theorem LsAt.sq {K : PySem.W.Frag} {H : Hp} {O : List Addr} {a : Addr} {vs : List V} (h : LsAt K H O a vs) : SqL K H a vs := by
  rcases h with h | h
  · exact .inl h.1
  · exact .inr h
def DkAt (H : Hp) (O : List Addr) (a : Addr) (u : HO) : Prop := H a = some u ∧ a ∉ O
mutual
def At (K : PySem.W.Frag) (H : Hp) (O : List Addr) : T → V → Prop
  | .non, v => v = .non
  | .bl b, v => v = .bl b
  | .int i, v => v = .int i
  | .str x, v => v = .str x
  | .ob a, v => v = .ref a
  | .ty n, v => v = .ty n
  | .tup ts, v => ∃ a vs, v = .ref a ∧ SqT K H a vs ∧ AtL K H O ts vs
  | .lst ts, v => ∃ a vs, v = .ref a ∧ LsAt K H O a vs ∧ AtL K H O ts vs
  | .dk ks ts, v => ∃ a vs, v = .ref a ∧ ks.length = vs.length ∧ DkAt H O a (.dK (ks.zip vs)) ∧ AtL K H O ts vs
  | .dt ks ts, v => ∃ a vs, v = .ref a ∧ ks.length = vs.length ∧ DkAt H O a (.dT (ks.zip vs)) ∧ AtL K H O ts vs
  | .df o ks ts, v => ∃ a vs, v = .ref a ∧ ks.length = vs.length ∧ DkAt H O a (.frz o (.dT (ks.zip vs))) ∧ AtL K H O ts vs
  | .pin a t, v => v = .ref a ∧ At K H O t v
  | .ins C ns ts, v => ∃ a dx vs, v = .ref a ∧ ns.length = vs.length ∧ DkAt H O a (.ins C dx (ns.zip vs)) ∧ AtL K H O ts vs
def AtL (K : PySem.W.Frag) (H : Hp) (O : List Addr) : List T → List V → Prop
  | [], vs => vs = []
  | t :: ts, vs => ∃ v r, vs = v :: r ∧ At K H O t v ∧ AtL K H O ts r
end
section
variable {K : PySem.W.Frag} {H H' : Hp} {O O' : List Addr}
mutual
theorem At.map (hl : ∀ a vs, LsAt K H O a vs → LsAt K H' O' a vs) (ht : ∀ a vs, SqT K H a vs → SqT K H' a vs) (hd : ∀ a u, DkAt H O a u → DkAt H' O' a u) : ∀ {t : T} {v : V}, At K H O t v → At K H' O' t v
  | .non, _, h => by simpa only [At] using h
  | .bl _, _, h => by simpa only [At] using h
  | .int _, _, h => by simpa only [At] using h
  | .str _, _, h => by simpa only [At] using h
  | .ob _, _, h => by simpa only [At] using h
  | .ty _, _, h => by simpa only [At] using h
  | .tup ts, _, h => by
    simp only [At] at h ⊢
    obtain ⟨a, vs, e, h1, h2⟩ := h
    exact ⟨a, vs, e, ht a vs h1, AtL.map hl ht hd h2⟩
  | .lst ts, _, h => by
    simp only [At] at h ⊢
    obtain ⟨a, vs, e, h1, h2⟩ := h
    exact ⟨a, vs, e, hl a vs h1, AtL.map hl ht hd h2⟩
  | .dk ks ts, _, h => by
    simp only [At] at h ⊢
    obtain ⟨a, vs, e, h0, h1, h2⟩ := h
    exact ⟨a, vs, e, h0, hd _ _ h1, AtL.map hl ht hd h2⟩
  | .dt ks ts, _, h => by
    simp only [At] at h ⊢
    obtain ⟨a, vs, e, h0, h1, h2⟩ := h
    exact ⟨a, vs, e, h0, hd _ _ h1, AtL.map hl ht hd h2⟩
  | .df o ks ts, _, h => by
    simp only [At] at h ⊢
    obtain ⟨a, vs, e, h0, h1, h2⟩ := h
    exact ⟨a, vs, e, h0, hd _ _ h1, AtL.map hl ht hd h2⟩
  | .pin a t, _, h => by
    simp only [At] at h ⊢
    exact ⟨h.1, At.map hl ht hd h.2⟩
  | .ins C ns ts, _, h => by
    simp only [At] at h ⊢
    obtain ⟨a, dx, vs, e, h0, h1, h2⟩ := h
    exact ⟨a, dx, vs, e, h0, hd _ _ h1, AtL.map hl ht hd h2⟩
theorem AtL.map (hl : ∀ a vs, LsAt K H O a vs → LsAt K H' O' a vs) (ht : ∀ a vs, SqT K H a vs → SqT K H' a vs) (hd : ∀ a u, DkAt H O a u → DkAt H' O' a u) : ∀ {ts : List T} {vs : List V}, AtL K H O ts vs → AtL K H' O' ts vs
  | [], _, h => by simpa only [AtL] using h
  | t :: ts, _, h => by
    simp only [AtL] at h ⊢
    obtain ⟨v, r, e, h1, h2⟩ := h
    exact ⟨v, r, e, At.map hl ht hd h1, AtL.map hl ht hd h2⟩
end
theorem Rd.same {a : Addr} {u : HO} (s : Same H H') (h : Rd H a u) : Rd H' a u := by
  rcases h with h | ⟨o, h⟩
  · exact .inl (s _ _ h)
  · exact .inr ⟨o, s _ _ h⟩
theorem SqT.same {a : Addr} {vs : List V} (s : Same H H') (h : SqT K H a vs) : SqT K H' a vs := by
  rcases h with h | h
  · exact .inl (Rd.same s h)
  · exact .inr h
theorem LsAt.same {a : Addr} {vs : List V} (s : Same H H') (h : LsAt K H O a vs) : LsAt K H' O a vs := by
  rcases h with h | h
  · exact .inl ⟨Rd.same s h.1, h.2⟩
  · exact .inr h
theorem At.same {t : T} {v : V} (s : Same H H') (h : At K H O t v) : At K H' O t v := At.map (fun _ _ q => q.same s) (fun _ _ q => SqT.same s q) (fun _ _ q => ⟨s _ _ q.1, q.2⟩) h
theorem AtL.same {t : List T} {v : List V} (s : Same H H') (h : AtL K H O t v) : AtL K H' O t v := AtL.map (fun _ _ q => q.same s) (fun _ _ q => SqT.same s q) (fun _ _ q => ⟨s _ _ q.1, q.2⟩) h
theorem At.fewer {t : T} {v : V} (s : ∀ a ∈ O', a ∈ O) (h : At K H O t v) : At K H O' t v :=
  At.map (fun a vs q => q.elim (fun z => .inl ⟨z.1, fun m => z.2 (s a m)⟩) .inr) (fun _ _ q => q) (fun a _ q => ⟨q.1, fun m => q.2 (s a m)⟩) h
theorem AtL.fewer {t : List T} {v : List V} (s : ∀ a ∈ O', a ∈ O) (h : AtL K H O t v) : AtL K H O' t v :=
  AtL.map (fun a vs q => q.elim (fun z => .inl ⟨z.1, fun m => z.2 (s a m)⟩) .inr) (fun _ _ q => q) (fun a _ q => ⟨q.1, fun m => q.2 (s a m)⟩) h
theorem Rd.some {a : Addr} {u : HO} (h : Rd H a u) : H a ≠ none := by
  rcases h with h | ⟨o, h⟩ <;> rw [h] <;> simp
theorem At.more {t : T} {v : V} (s : ∀ a ∈ O', a ∈ O ∨ H a = none) (h : At K H O t v) : At K H O' t v :=
  At.map (fun a vs q => q.elim (fun z => .inl ⟨z.1, fun m => (s a m).elim z.2 (Rd.some z.1)⟩) .inr) (fun _ _ q => q) (fun a kvs q => ⟨q.1, fun m => (s a m).elim q.2 (by rw [q.1]; simp)⟩) h
theorem AtL.more {t : List T} {v : List V} (s : ∀ a ∈ O', a ∈ O ∨ H a = none) (h : AtL K H O t v) : AtL K H O' t v :=
  AtL.map (fun a vs q => q.elim (fun z => .inl ⟨z.1, fun m => (s a m).elim z.2 (Rd.some z.1)⟩) .inr) (fun _ _ q => q) (fun a kvs q => ⟨q.1, fun m => (s a m).elim q.2 (by rw [q.1]; simp)⟩) h
def mutO : HO → Bool
  | .lst _ => true
  | .dK _ => true
  | .dT _ => true
  | .ins _ _ _ => true
  | _ => false
theorem At.wrote {t : T} {v : V} {a : Addr} {o u : HO} (ha : a ∈ O) (hu : H a = some u) (hm : mutO u = true) (h : At K H O t v) : At K (upd H a o) O t v := by
  have ne : ∀ b, b ∉ O → b ≠ a := fun b hb e => hb (by rw [e]; exact ha)
  refine At.map (fun b vs q => ?_) (fun b vs q => ?_) (fun b kvs q => ?_) h
  · rcases q with q | q
    · refine .inl ⟨?_, q.2⟩
      rcases q.1 with z | ⟨o', z⟩
      · exact .inl (by rw [upd_ne (ne b q.2)]; exact z)
      · exact .inr ⟨o', by rw [upd_ne (ne b q.2)]; exact z⟩
    · exact .inr q
  · rcases q with z | z
    · refine .inl ?_
      rcases z with z | ⟨o', z⟩
      · exact .inl (by rw [upd_ne (ne_of z hu (by intro e; subst e; cases hm))]; exact z)
      · exact .inr ⟨o', by rw [upd_ne (ne_of z hu (by intro e; subst e; cases hm))]; exact z⟩
    · exact .inr z
  · exact ⟨by rw [upd_ne (ne b q.2)]; exact q.1, q.2⟩
theorem AtL.iff {ts : List T} : ∀ {vs : List V}, AtL K H O ts vs ↔ Paired (fun v t => At K H O t v) vs ts := by
  induction ts with
  | nil => intro vs; simp only [AtL]; exact ⟨fun e => by subst e; exact .nil, fun h => by cases h; rfl⟩
  | cons t ts ih =>
    intro vs
    simp only [AtL]
    constructor
    · rintro ⟨v, r, rfl, h1, h2⟩
      exact .cons h1 (ih.mp h2)
    · intro h
      cases h with
      | cons h1 h2 => exact ⟨_, _, rfl, h1, ih.mpr h2⟩
theorem AtL.wrote {t : List T} {v : List V} {a : Addr} {o u : HO} (ha : a ∈ O) (hu : H a = some u) (hm : mutO u = true) (h : AtL K H O t v) : AtL K (upd H a o) O t v :=
  AtL.iff.mpr (Paired.mapP (AtL.iff.mp h) fun _ _ q => q.wrote ha hu hm)
theorem AtL.length {ts : List T} {vs : List V} (h : AtL K H O ts vs) : vs.length = ts.length := Paired.length (AtL.iff.mp h)
theorem AtL.get {ts : List T} {vs : List V} (h : AtL K H O ts vs) {i : Nat} {t : T} (e : ts[i]? = some t) : ∃ v, vs[i]? = some v ∧ At K H O t v := by
  have q := AtL.iff.mp h
  clear h
  induction q generalizing i with
  | nil => simp at e
  | cons r _ ih =>
    cases i with
    | zero => simp at e; subst e; exact ⟨_, rfl, r⟩
    | succ i => obtain ⟨v, h1, h2⟩ := ih (i := i) (by simpa using e); exact ⟨v, by simpa using h1, h2⟩
theorem AtL.cons {t : T} {ts : List T} {v : V} {vs : List V} (h : At K H O t v) (hs : AtL K H O ts vs) : AtL K H O (t :: ts) (v :: vs) := by
  simp only [AtL]; exact ⟨v, vs, rfl, h, hs⟩
theorem AtL.nil : AtL K H O [] [] := by simp only [AtL]
theorem AtL.append {ts us : List T} {vs ws : List V} (h : AtL K H O ts vs) (h' : AtL K H O us ws) : AtL K H O (ts ++ us) (vs ++ ws) := by
  rw [AtL.iff] at h h' ⊢
  induction h with
  | nil => exact h'
  | cons r _ ih => exact .cons r ih
theorem AtL.drop {ts : List T} {vs : List V} (n : Nat) (h : AtL K H O ts vs) : AtL K H O (ts.drop n) (vs.drop n) := by
  rw [AtL.iff] at h ⊢
  induction h generalizing n with
  | nil => cases n <;> exact .nil
  | cons r t ih => cases n with
    | zero => exact .cons r t
    | succ n => exact ih n
theorem AtL.take {ts : List T} {vs : List V} (n : Nat) (h : AtL K H O ts vs) : AtL K H O (ts.take n) (vs.take n) := by
  rw [AtL.iff] at h ⊢
  induction h generalizing n with
  | nil => cases n <;> exact .nil
  | cons r t ih => cases n with
    | zero => exact .nil
    | succ n => exact .cons r (ih n)
theorem AtL.set {ts : List T} {vs : List V} {t : T} {v : V} (i : Nat) (h : AtL K H O ts vs) (q : At K H O t v) : AtL K H O (ts.set i t) (vs.set i v) := by
  rw [AtL.iff] at h ⊢
  induction h generalizing i with
  | nil => exact .nil
  | cons r s ih => cases i with
    | zero => exact .cons q s
    | succ i => exact .cons r (ih i)
end
section
variable {K : PySem.W.Frag} {H H' : Hp} {O O' : List Addr}
end
end VT
set_option Elab.async false
set_option linter.all false
set_option maxRecDepth 100000
set_option maxHeartbeats 4000000
namespace VT
open PySem PySem.Spec PyProof.Rows L2
abbrev En := List (Option (T × Bool))
structure Zc where
  H0 : Hp
  P : List (Nat × Addr)
  Ox : List Addr
def Zc.ex (Z : Zc) (a : Addr) : Zc := { Z with Ox := a :: Z.Ox }
def Root (K : PySem.W.Frag) (H : Hp) (A : List Addr) (a : Addr) : T → Prop
  | .lst ts => ∃ vs, H a = some (.lst vs) ∧ AtL K H A ts vs
  | .dk ks ts => ∃ vs, ks.length = vs.length ∧ H a = some (.dK (ks.zip vs)) ∧ AtL K H A ts vs
  | .dt ks ts => ∃ vs, ks.length = vs.length ∧ H a = some (.dT (ks.zip vs)) ∧ AtL K H A ts vs
  | .ins C ns ts => ∃ dx vs, ns.length = vs.length ∧ H a = some (.ins C dx (ns.zip vs)) ∧ AtL K H A ts vs
  | _ => False
def SlotAt (K : PySem.W.Frag) (H : Hp) (A : List Addr) : Option (T × Bool) → Option Addr → Option V → Prop
  | none, o, _ => o = none
  | some (t, false), o, s => o = none ∧ ∃ v, s = some v ∧ At K H A t v
  | some (t, true), o, s => ∃ a, o = some a ∧ s = some (.ref a) ∧ Root K H A a t
def roots (O : List (Option Addr)) : List Addr := O.filterMap id
def av (Z : Zc) (O : List (Option Addr)) : List Addr := roots O ++ Z.Ox
structure EnvAt (K : PySem.W.Frag) (Z : Zc) (tm : List (T × V)) (O : List (Option Addr)) (ρ : En) (σ : St) (H : Hp) : Prop where
  lσ : σ.length = ρ.length
  lO : O.length = ρ.length
  sl : ∀ (i : Nat) e, ρ[i]? = some e → ∃ o s, O[i]? = some o ∧ σ[i]? = some s ∧ SlotAt K H (av Z O) e o s
  nd : (roots O).Nodup
  own : ∀ a ∈ roots O, (a ∈ Z.P.map (·.2) ∨ Z.H0 a = none) ∧ a ∉ Z.Ox ∧ ∃ u, H a = some u ∧ mutO u = true
  par : ∀ p ∈ Z.P, O[p.1]? = some (some p.2)
  ox : ∀ a ∈ Z.Ox, H a ≠ none
  keep : ∀ b o, Z.H0 b = some o → b ∉ Z.P.map (·.2) → H b = some o
  tmp : ∀ p ∈ tm, At K H (av Z O) p.1 p.2
section
variable {K : PySem.W.Frag} {Z : Zc} {tm : List (T × V)} {O : List (Option Addr)} {ρ : En} {σ : St} {H H' : Hp}
theorem Root.map {A A' : List Addr} {a : Addr} {t : T} (h : Root K H A a t) (h1 : H' a = H a) (h2 : ∀ ts vs, AtL K H A ts vs → AtL K H' A' ts vs) : Root K H' A' a t := by
  cases t with
  | lst ts => obtain ⟨vs, e, q⟩ := h; exact ⟨vs, h1.trans e, h2 _ _ q⟩
  | dk ks ts => obtain ⟨vs, l, e, q⟩ := h; exact ⟨vs, l, h1.trans e, h2 _ _ q⟩
  | dt ks ts => obtain ⟨vs, l, e, q⟩ := h; exact ⟨vs, l, h1.trans e, h2 _ _ q⟩
  | ins C ns ts => obtain ⟨dx, vs, l, e, q⟩ := h; exact ⟨dx, vs, l, h1.trans e, h2 _ _ q⟩
  | _ => exact h.elim
theorem Root.mut {A : List Addr} {a : Addr} {t : T} (h : Root K H A a t) : ∃ u, H a = some u ∧ mutO u = true := by
  cases t with
  | lst ts => obtain ⟨vs, e, q⟩ := h; exact ⟨_, e, rfl⟩
  | dk ks ts => obtain ⟨vs, l, e, q⟩ := h; exact ⟨_, e, rfl⟩
  | dt ks ts => obtain ⟨vs, l, e, q⟩ := h; exact ⟨_, e, rfl⟩
  | ins C ns ts => obtain ⟨dx, vs, l, e, q⟩ := h; exact ⟨_, e, rfl⟩
  | _ => exact h.elim
theorem Root.fewer {A A' : List Addr} {a : Addr} {t : T} (h : Root K H A a t) (s : ∀ b ∈ A', b ∈ A) : Root K H A' a t := h.map rfl fun _ _ q => q.fewer s
theorem Root.same {A : List Addr} {a : Addr} {t : T} (h : Root K H A a t) (s : Same H H') : Root K H' A a t := by
  obtain ⟨u, e, _⟩ := h.mut
  exact h.map (by rw [e]; exact s _ _ e) fun _ _ q => q.same s
theorem Root.at {A : List Addr} {a : Addr} {t : T} (h : Root K H A a t) (n : a ∉ A) : At K H A t (.ref a) := by
  cases t with
  | lst ts => obtain ⟨vs, e, q⟩ := h; simp only [At]; exact ⟨a, vs, rfl, .inl ⟨.inl e, n⟩, q⟩
  | dk ks ts => obtain ⟨vs, l, e, q⟩ := h; simp only [At]; exact ⟨a, vs, rfl, l, ⟨e, n⟩, q⟩
  | dt ks ts => obtain ⟨vs, l, e, q⟩ := h; simp only [At]; exact ⟨a, vs, rfl, l, ⟨e, n⟩, q⟩
  | ins C ns ts => obtain ⟨dx, vs, l, e, q⟩ := h; simp only [At]; exact ⟨a, dx, vs, rfl, l, ⟨e, n⟩, q⟩
  | _ => exact h.elim
theorem SlotAt.map {A A' : List Addr} {e : Option (T × Bool)} {o : Option Addr} {s : Option V} (h : SlotAt K H A e o s) (h1 : ∀ t v, At K H A t v → At K H' A' t v) (h2 : ∀ a t, o = some a → Root K H A a t → Root K H' A' a t) : SlotAt K H' A' e o s := by
  match e, h with
  | none, h => exact h
  | some (t, false), ⟨e, v, es, q⟩ => exact ⟨e, v, es, h1 _ _ q⟩
  | some (t, true), ⟨a, e, es, q⟩ => exact ⟨a, e, es, h2 _ _ e q⟩
theorem mem_roots {a : Addr} : a ∈ roots O ↔ some a ∈ O := by
  unfold roots
  rw [List.mem_filterMap]
  exact ⟨fun ⟨x, h, e⟩ => by rw [id] at e; rw [← e]; exact h, fun h => ⟨_, h, rfl⟩⟩
theorem EnvAt.avH (I : EnvAt K Z tm O ρ σ H) : ∀ a ∈ av Z O, H a ≠ none := fun a h => by
  rcases List.mem_append.mp h with h | h
  · obtain ⟨_, _, u, e, _⟩ := I.own a h; rw [e]; simp
  · exact I.ox a h
theorem EnvAt.same (I : EnvAt K Z tm O ρ σ H) (s : Same H H') : EnvAt K Z tm O ρ σ H' :=
  ⟨I.lσ, I.lO, fun i e h => let ⟨o, w, h1, h2, h3⟩ := I.sl i e h; ⟨o, w, h1, h2, h3.map (fun _ _ q => q.same s) fun _ _ _ q => q.same s⟩, I.nd,
    fun a h => let ⟨h1, h2, u, e, m⟩ := I.own a h; ⟨h1, h2, u, s _ _ e, m⟩, I.par, fun a h => by
      cases e : H a with
      | none => exact absurd e (I.ox a h)
      | some u => rw [s _ _ e]; simp,
    fun b o e n => s _ _ (I.keep b o e n), fun p hp => (I.tmp p hp).same s⟩
theorem roots_set_sub (i : Nat) : ∀ a ∈ roots (O.set i none), a ∈ roots O := fun a h => by
  rw [mem_roots] at h ⊢
  rcases List.mem_or_eq_of_mem_set h with z | z
  · exact z
  · cases z
theorem nd_set_none : ∀ (O : List (Option Addr)) (i : Nat), (roots O).Nodup → (roots (O.set i none)).Nodup
  | [], i, h => by simpa using h
  | o :: O, 0, h => by
    cases o with
    | none => simpa [roots] using h
    | some a => simp only [roots, List.set_cons_zero, List.filterMap_cons, id] at h ⊢; exact (List.nodup_cons.mp h).2
  | o :: O, i + 1, h => by
    have key := nd_set_none O i
    cases o with
    | none => simp only [roots, List.set_cons_succ, List.filterMap_cons, id] at h ⊢; exact key h
    | some a =>
      simp only [roots, List.set_cons_succ, List.filterMap_cons, id] at h ⊢
      rw [List.nodup_cons] at h ⊢
      exact ⟨fun z => h.1 (roots_set_sub i a z), key h.2⟩
theorem av_none_sub (i : Nat) : ∀ a ∈ av Z (O.set i none), a ∈ av Z O := fun a h => by
  rcases List.mem_append.mp h with h | h
  · exact List.mem_append_left _ (roots_set_sub i a h)
  · exact List.mem_append_right _ h
theorem get_set {α : Type} {l : List α} {i j : Nat} {x y : α} (h : (l.set i x)[j]? = some y) : (j = i ∧ y = x ∧ i < l.length) ∨ (j ≠ i ∧ l[j]? = some y) := by
  rw [List.getElem?_set] at h
  by_cases e : i = j
  · rw [if_pos e] at h
    by_cases hl : i < l.length
    · rw [if_pos hl] at h
      exact .inl ⟨e.symm, (Option.some.inj h).symm, hl⟩
    · rw [if_neg hl] at h; cases h
  · rw [if_neg e] at h
    exact .inr ⟨fun z => e z.symm, h⟩
theorem EnvAt.put (I : EnvAt K Z tm O ρ σ H) {i : Nat} {t : T} {v : V} (hp : ∀ p ∈ Z.P, p.1 ≠ i) (hv : At K H (av Z O) t v) : EnvAt K Z tm (O.set i none) (ρ.set i (some (t, false))) (σ.set i (some v)) H := by
  have fw : ∀ {t : T} {v : V}, At K H (av Z O) t v → At K H (av Z (O.set i none)) t v := fun q => q.fewer (av_none_sub i)
  refine ⟨by simp [I.lσ], by simp [I.lO], fun j e h => ?_, nd_set_none _ _ I.nd, fun a h => I.own a (roots_set_sub i a h), fun p q => ?_, I.ox, I.keep, fun p q => fw (I.tmp p q)⟩
  · rcases get_set h with ⟨rfl, rfl, hl⟩ | ⟨ne, h⟩
    · exact ⟨none, some v, by rw [List.getElem?_set_self (by rw [I.lO]; exact hl)], by rw [List.getElem?_set_self (by rw [I.lσ]; exact hl)], rfl, v, rfl, fw hv⟩
    · obtain ⟨o, s, h1, h2, h3⟩ := I.sl j e h
      exact ⟨o, s, by rw [List.getElem?_set_ne (Ne.symm ne)]; exact h1, by rw [List.getElem?_set_ne (Ne.symm ne)]; exact h2, h3.map (fun _ _ q => fw q) fun _ _ _ q => q.fewer (av_none_sub i)⟩
  · rw [List.getElem?_set_ne (Ne.symm (hp p q))]; exact I.par p q
theorem EnvAt.forget (I : EnvAt K Z tm O ρ σ H) {i : Nat} (hp : ∀ p ∈ Z.P, p.1 ≠ i) : EnvAt K Z tm (O.set i none) (ρ.set i none) σ H := by
  have fw : ∀ {t : T} {v : V}, At K H (av Z O) t v → At K H (av Z (O.set i none)) t v := fun q => q.fewer (av_none_sub i)
  refine ⟨by simp [I.lσ], by simp [I.lO], fun j e h => ?_, nd_set_none _ _ I.nd, fun a h => I.own a (roots_set_sub i a h), fun p q => ?_, I.ox, I.keep, fun p q => fw (I.tmp p q)⟩
  · rcases get_set h with ⟨rfl, rfl, hl⟩ | ⟨ne, h⟩
    · obtain ⟨s, hs⟩ : ∃ s, σ[j]? = some s := ⟨σ[j]'(by rw [I.lσ]; exact hl), by simp⟩
      exact ⟨none, s, by rw [List.getElem?_set_self (by rw [I.lO]; exact hl)], hs, rfl⟩
    · obtain ⟨o, s, h1, h2, h3⟩ := I.sl j e h
      exact ⟨o, s, by rw [List.getElem?_set_ne (Ne.symm ne)]; exact h1, h2, h3.map (fun _ _ q => fw q) fun _ _ _ q => q.fewer (av_none_sub i)⟩
  · rw [List.getElem?_set_ne (Ne.symm (hp p q))]; exact I.par p q
theorem nd_set_some : ∀ (O : List (Option Addr)) (i : Nat) (a : Addr), a ∉ roots O → (roots O).Nodup → (roots (O.set i (some a))).Nodup
  | [], i, a, _, h => by simpa using h
  | o :: O, 0, a, n, h => by
    cases o with
    | none => simp only [roots, List.set_cons_zero, List.filterMap_cons, id] at n h ⊢; exact List.nodup_cons.mpr ⟨n, h⟩
    | some b =>
      simp only [roots, List.set_cons_zero, List.filterMap_cons, id] at n h ⊢
      exact List.nodup_cons.mpr ⟨fun z => n (List.mem_cons_of_mem _ z), (List.nodup_cons.mp h).2⟩
  | o :: O, i + 1, a, n, h => by
    have key := nd_set_some O i a
    cases o with
    | none => simp only [roots, List.set_cons_succ, List.filterMap_cons, id] at n h ⊢; exact key n h
    | some b =>
      simp only [roots, List.set_cons_succ, List.filterMap_cons, id] at n h ⊢
      rw [List.nodup_cons] at h ⊢
      refine ⟨fun z => ?_, key (fun z => n (List.mem_cons_of_mem _ z)) h.2⟩
      have z' : some b ∈ O.set i (some a) := mem_roots.mp z
      rcases List.mem_or_eq_of_mem_set z' with q | q
      · exact h.1 (mem_roots.mpr q)
      · exact n (by rw [Option.some.inj q]; exact List.mem_cons_self)
theorem av_some_sub {a : Addr} (i : Nat) : ∀ b ∈ av Z (O.set i (some a)), b ∈ av (Z.ex a) O := fun b h => by
  rcases List.mem_append.mp h with h | h
  · rcases List.mem_or_eq_of_mem_set (mem_roots.mp h) with z | z
    · exact List.mem_append_left _ (mem_roots.mpr z)
    · exact List.mem_append_right _ (by rw [Option.some.inj z]; exact List.mem_cons_self)
  · exact List.mem_append_right _ (List.mem_cons_of_mem _ h)
theorem EnvAt.own' {a : Addr} (I : EnvAt K (Z.ex a) tm O ρ σ H) {i : Nat} {t : T} (hp : ∀ p ∈ Z.P, p.1 ≠ i) (hv : Root K H (av (Z.ex a) O) a t) (h0 : Z.H0 a = none) (hx : a ∉ Z.Ox) : EnvAt K Z tm (O.set i (some a)) (ρ.set i (some (t, true))) (σ.set i (some (.ref a))) H := by
  have sub := av_some_sub (Z := Z) (O := O) (a := a) i
  have fw : ∀ {t : T} {v : V}, At K H (av (Z.ex a) O) t v → At K H (av Z (O.set i (some a))) t v := fun q => q.fewer sub
  have na : a ∉ roots O := fun z => (I.own a z).2.1 List.mem_cons_self
  refine ⟨by simp [I.lσ], by simp [I.lO], fun j e h => ?_, nd_set_some _ _ _ na I.nd, fun b h => ?_, fun p q => ?_, fun b h => I.ox b (List.mem_cons_of_mem _ h), I.keep, fun p q => fw (I.tmp p q)⟩
  · rcases get_set h with ⟨rfl, rfl, hl⟩ | ⟨ne, h⟩
    · exact ⟨some a, some (.ref a), by rw [List.getElem?_set_self (by rw [I.lO]; exact hl)], by rw [List.getElem?_set_self (by rw [I.lσ]; exact hl)], a, rfl, rfl, hv.fewer sub⟩
    · obtain ⟨o, s, h1, h2, h3⟩ := I.sl j e h
      exact ⟨o, s, by rw [List.getElem?_set_ne (Ne.symm ne)]; exact h1, by rw [List.getElem?_set_ne (Ne.symm ne)]; exact h2, h3.map (fun _ _ q => fw q) fun _ _ _ q => q.fewer sub⟩
  · rcases List.mem_or_eq_of_mem_set (mem_roots.mp h) with z | z
    · obtain ⟨h1, h2, h3⟩ := I.own b (mem_roots.mpr z)
      exact ⟨h1, fun q => h2 (List.mem_cons_of_mem _ q), h3⟩
    · cases z
      exact ⟨.inr h0, hx, hv.mut⟩
  · rw [List.getElem?_set_ne (Ne.symm (hp p q))]; exact I.par p q
theorem EnvAt.frz (I : EnvAt K Z tm O ρ σ H) {i : Nat} {t : T} (hp : ∀ p ∈ Z.P, p.1 ≠ i) (hi : ρ[i]? = some (some (t, true))) : EnvAt K Z tm (O.set i none) (ρ.set i (some (t, false))) σ H := by
  have fw : ∀ {t : T} {v : V}, At K H (av Z O) t v → At K H (av Z (O.set i none)) t v := fun q => q.fewer (av_none_sub i)
  obtain ⟨o, s, h1, h2, a, rfl, rfl, hr⟩ := I.sl i _ hi
  have ha : a ∈ roots O := mem_roots.mpr (List.mem_of_getElem? h1)
  have na : a ∉ roots (O.set i none) := fun z => by
    obtain ⟨j, hj⟩ := List.mem_iff_getElem?.mp (mem_roots.mp z)
    rcases get_set hj with ⟨_, q, _⟩ | ⟨ne, q⟩
    · cases q
    · -- two places of one root
      have key : ∀ (O : List (Option Addr)) (i j : Nat), i < j → O[i]? = some (some a) → O[j]? = some (some a) → (roots O).Nodup → False := by
        intro O
        induction O with
        | nil => intro i j _ h; simp at h
        | cons o O ih =>
          intro i j hij e1 e2 nd
          cases j with
          | zero => omega
          | succ j =>
            have e2' : O[j]? = some (some a) := by simpa using e2
            cases i with
            | zero =>
              have : o = some a := by simpa using e1
              subst this
              simp only [roots, List.filterMap_cons, id] at nd
              exact (List.nodup_cons.mp nd).1 (mem_roots.mpr (List.mem_of_getElem? e2'))
            | succ i =>
              refine ih i j (by omega) (by simpa using e1) e2' ?_
              cases o with
              | none => simpa [roots] using nd
              | some b => simp only [roots, List.filterMap_cons, id] at nd; exact (List.nodup_cons.mp nd).2
      rcases Nat.lt_or_gt_of_ne ne with l | l
      · exact key O j i l q h1 I.nd
      · exact key O i j l h1 q I.nd
  have nav : a ∉ av Z (O.set i none) := fun z => by
    rcases List.mem_append.mp z with z | z
    · exact na z
    · exact (I.own a ha).2.1 z
  refine ⟨by simp [I.lσ], by simp [I.lO], fun j e h => ?_, nd_set_none _ _ I.nd, fun a h => I.own a (roots_set_sub i a h), fun p q => ?_, I.ox, I.keep, fun p q => fw (I.tmp p q)⟩
  · rcases get_set h with ⟨rfl, rfl, hl⟩ | ⟨ne, h⟩
    · exact ⟨none, some (.ref a), by rw [List.getElem?_set_self (by rw [I.lO]; exact hl)], h2, rfl, .ref a, rfl, (hr.fewer (av_none_sub j)).at nav⟩
    · obtain ⟨o, s, h1, h2, h3⟩ := I.sl j e h
      exact ⟨o, s, by rw [List.getElem?_set_ne (Ne.symm ne)]; exact h1, h2, h3.map (fun _ _ q => fw q) fun _ _ _ q => q.fewer (av_none_sub i)⟩
  · rw [List.getElem?_set_ne (Ne.symm (hp p q))]; exact I.par p q
theorem EnvAt.wrote (I : EnvAt K Z tm O ρ σ H) {i : Nat} {t t' : T} {a : Addr} {u : HO} (hi : ρ[i]? = some (some (t, true))) (hO : O[i]? = some (some a)) (hr : Root K (upd H a u) (av Z O) a t') : EnvAt K Z tm O (ρ.set i (some (t', true))) σ (upd H a u) := by
  have ha : a ∈ roots O := mem_roots.mpr (List.mem_of_getElem? hO)
  have hav : a ∈ av Z O := List.mem_append_left _ ha
  obtain ⟨hP, hx, u0, e0, m0⟩ := I.own a ha
  have inj : ∀ j b, j ≠ i → O[j]? = some (some b) → b ≠ a := by
    intro j b ne hj e
    subst e
    have key : ∀ (O : List (Option Addr)) (i j : Nat), i < j → O[i]? = some (some b) → O[j]? = some (some b) → (roots O).Nodup → False := by
      intro O
      induction O with
      | nil => intro i j _ h; simp at h
      | cons o O ih =>
        intro i j hij e1 e2 nd
        cases j with
        | zero => omega
        | succ j =>
          have e2' : O[j]? = some (some b) := by simpa using e2
          cases i with
          | zero =>
            have : o = some b := by simpa using e1
            subst this
            simp only [roots, List.filterMap_cons, id] at nd
            exact (List.nodup_cons.mp nd).1 (mem_roots.mpr (List.mem_of_getElem? e2'))
          | succ i =>
            refine ih i j (by omega) (by simpa using e1) e2' ?_
            cases o with
            | none => simpa [roots] using nd
            | some c => simp only [roots, List.filterMap_cons, id] at nd; exact (List.nodup_cons.mp nd).2
    rcases Nat.lt_or_gt_of_ne ne with l | l
    · exact key O j i l hj hO I.nd
    · exact key O i j l hO hj I.nd
  refine ⟨by simp [I.lσ], by simp [I.lO], fun j e h => ?_, I.nd, fun b h => ?_, I.par, fun b h => ?_, fun b o e n => ?_, fun p q => (I.tmp p q).wrote hav e0 m0⟩
  · rcases get_set h with ⟨rfl, rfl, hl⟩ | ⟨ne, h⟩
    · obtain ⟨o, s, h1, h2, a', h4, h5, h6⟩ := I.sl j _ hi
      rw [hO] at h1
      cases h1
      cases h4
      exact ⟨_, s, hO, h2, a, rfl, h5, hr⟩
    · obtain ⟨o, s, h1, h2, h3⟩ := I.sl j e h
      refine ⟨o, s, h1, h2, h3.map (fun _ _ q => q.wrote hav e0 m0) fun b t e q => ?_⟩
      subst e
      exact q.map (upd_ne (inj j b ne h1)) fun _ _ z => z.wrote hav e0 m0
  · obtain ⟨h1, h2, v, e, m⟩ := I.own b h
    by_cases hb : b = a
    · subst hb; exact ⟨h1, h2, hr.mut⟩
    · exact ⟨h1, h2, v, by rw [upd_ne hb]; exact e, m⟩
  · by_cases hb : b = a
    · subst hb; exact absurd h hx
    · rw [upd_ne hb]; exact I.ox b h
  · by_cases hb : b = a
    · subst hb
      rcases hP with q | q
      · exact absurd q n
      · rw [q] at e; cases e
    · rw [upd_ne hb]; exact I.keep b o e n
theorem EnvAt.fresh (I : EnvAt K Z tm O ρ σ H) {a : Addr} (h : H a = none) : a ∉ av Z O ∧ a ∉ Z.Ox ∧ Z.H0 a = none := by
  refine ⟨fun z => I.avH a z h, fun z => I.ox a z h, ?_⟩
  cases e : Z.H0 a with
  | none => rfl
  | some o =>
    by_cases hp : a ∈ Z.P.map (·.2)
    · obtain ⟨p, hp', rfl⟩ := List.mem_map.mp hp
      obtain ⟨_, _, u, e', _⟩ := I.own p.2 (mem_roots.mpr (List.mem_of_getElem? (I.par p hp')))
      rw [h] at e'; cases e'
    · rw [I.keep a o e hp] at h; cases h
theorem av_ex_sub {a : Addr} : ∀ b ∈ av (Z.ex a) O, b ∈ av Z O ∨ b = a := fun b h => by
  rcases List.mem_append.mp h with h | h
  · exact .inl (List.mem_append_left _ h)
  · rcases List.mem_cons.mp h with h | h
    · exact .inr h
    · exact .inl (List.mem_append_right _ h)
theorem sub_av_ex {a : Addr} : ∀ b ∈ av Z O, b ∈ av (Z.ex a) O := fun b h => by
  rcases List.mem_append.mp h with h | h
  · exact List.mem_append_left _ h
  · exact List.mem_append_right _ (List.mem_cons_of_mem _ h)
theorem EnvAt.new (I : EnvAt K Z tm O ρ σ H) {a : Addr} {u : HO} (h : H a = none) (hu : mutO u = true) : EnvAt K (Z.ex a) tm O ρ σ (upd H a u) := by
  have s : Same H (upd H a u) := same_upd h
  have J := I.same s
  obtain ⟨n1, n2, n3⟩ := I.fresh h
  have mr : ∀ b ∈ av (Z.ex a) O, b ∈ av Z O ∨ H b = none := fun b hb => (av_ex_sub b hb).imp id fun e => by rw [e]; exact h
  have fw : ∀ {t : T} {v : V}, At K H (av Z O) t v → At K (upd H a u) (av (Z.ex a) O) t v := fun q => (q.more mr).same s
  refine ⟨J.lσ, J.lO, fun i e hi => ?_, J.nd, fun b hb => ?_, J.par, fun b hb => ?_, J.keep, fun p hp => fw (I.tmp p hp)⟩
  · obtain ⟨o, w, h1, h2, h3⟩ := I.sl i e hi
    refine ⟨o, w, h1, h2, h3.map (fun _ _ q => fw q) fun b t eo q => ?_⟩
    refine Root.same (q.map rfl fun _ _ z => z.more mr) s
  · obtain ⟨q1, q2, q3⟩ := J.own b hb
    refine ⟨q1, fun z => ?_, q3⟩
    rcases List.mem_cons.mp z with z | z
    · exact n1 (by rw [← z]; exact List.mem_append_left _ hb)
    · exact q2 z
  · rcases List.mem_cons.mp hb with z | z
    · rw [z, upd_same]; simp
    · exact J.ox b z
theorem EnvAt.unex {a : Addr} (I : EnvAt K (Z.ex a) tm O ρ σ H) : EnvAt K Z tm O ρ σ H :=
  ⟨I.lσ, I.lO, fun i e h => let ⟨o, w, h1, h2, h3⟩ := I.sl i e h; ⟨o, w, h1, h2, h3.map (fun _ _ q => q.fewer sub_av_ex) fun _ _ _ q => q.fewer sub_av_ex⟩, I.nd,
    fun b h => let ⟨q1, q2, q3⟩ := I.own b h; ⟨q1, fun z => q2 (List.mem_cons_of_mem _ z), q3⟩, I.par, fun b h => I.ox b (List.mem_cons_of_mem _ h), I.keep, fun p hp => (I.tmp p hp).fewer sub_av_ex⟩
end
end VT
set_option Elab.async false
set_option linter.all false
set_option maxRecDepth 100000
set_option maxHeartbeats 4000000
namespace VT
open PySem PySem.Spec PyProof.Rows L2
inductive Rt where
  | vw (t : T)
  | fr (t : T)
def Rt.t : Rt → T
  | .vw t => t
  | .fr t => t
def AtR (K : PySem.W.Frag) (H : Hp) (A : List Addr) (t : T) (v : V) : Prop := At K H A t v ∨ ∃ a, v = .ref a ∧ Root K H A a t
def RetX (K : PySem.W.Frag) (Z : Zc) (tm : List (T × V)) (O : List (Option Addr)) (ρ : En) (σ : St) (H : Hp) : Rt → V → Prop
  | .vw t, v => EnvAt K Z tm O ρ σ H ∧ At K H (av Z O) t v
  | .fr t, v => ∃ a, v = .ref a ∧ EnvAt K (Z.ex a) tm O ρ σ H ∧ Root K H (av (Z.ex a) O) a t ∧ Z.H0 a = none ∧ a ∉ Z.Ox
abbrev FE := En → (T → Prop) → Prop
abbrev FP := En → (Rt → Prop) → Prop
abbrev FX := En → (En → Rt → Prop) → Prop
abbrev FB := En → (Bool → Prop) → Prop
abbrev FA := En → (List T → Prop) → Prop
section
variable {K : PySem.W.Frag} {Z : Zc} {tm : List (T × V)} {O : List (Option Addr)} {ρ : En} {σ : St} {H H' : Hp} {A : List Addr}
theorem AtR.same {t : T} {v : V} (s : Same H H') (h : AtR K H A t v) : AtR K H' A t v := h.imp (fun q => q.same s) fun ⟨a, e, q⟩ => ⟨a, e, q.same s⟩
theorem AtR.lst {ts : List T} {v : V} (h : AtR K H A (.lst ts) v) : ∃ a vs, v = .ref a ∧ SqL K H a vs ∧ AtL K H A ts vs := by
  rcases h with h | ⟨a, rfl, vs, e, q⟩
  · simp only [At] at h
    obtain ⟨a, vs, rfl, l, q⟩ := h
    exact ⟨a, vs, rfl, l.sq, q⟩
  · exact ⟨a, vs, rfl, SqL.of e, q⟩
theorem AtR.tup {ts : List T} {v : V} (h : AtR K H A (.tup ts) v) : ∃ a vs, v = .ref a ∧ SqT K H a vs ∧ AtL K H A ts vs := by
  rcases h with h | ⟨a, rfl, q⟩
  · simpa only [At] using h
  · exact q.elim
theorem AtR.dk {ks : List Key} {ts : List T} {v : V} (h : AtR K H A (.dk ks ts) v) : ∃ a vs, v = .ref a ∧ ks.length = vs.length ∧ H a = some (.dK (ks.zip vs)) ∧ AtL K H A ts vs := by
  rcases h with h | ⟨a, rfl, vs, l, e, q⟩
  · simp only [At] at h
    obtain ⟨a, vs, rfl, l, d, q⟩ := h
    exact ⟨a, vs, rfl, l, d.1, q⟩
  · exact ⟨a, vs, rfl, l, e, q⟩
theorem AtR.dt {ks : List (List Key)} {ts : List T} {v : V} (h : AtR K H A (.dt ks ts) v) : ∃ a vs, v = .ref a ∧ ks.length = vs.length ∧ H a = some (.dT (ks.zip vs)) ∧ AtL K H A ts vs := by
  rcases h with h | ⟨a, rfl, vs, l, e, q⟩
  · simp only [At] at h
    obtain ⟨a, vs, rfl, l, d, q⟩ := h
    exact ⟨a, vs, rfl, l, d.1, q⟩
  · exact ⟨a, vs, rfl, l, e, q⟩
theorem AtR.df {o : Obj} {ks : List (List Key)} {ts : List T} {v : V} (h : AtR K H A (.df o ks ts) v) : ∃ a vs, v = .ref a ∧ ks.length = vs.length ∧ H a = some (.frz o (.dT (ks.zip vs))) ∧ AtL K H A ts vs := by
  rcases h with h | ⟨a, rfl, q⟩
  · simp only [At] at h
    obtain ⟨a, vs, rfl, l, d, q⟩ := h
    exact ⟨a, vs, rfl, l, d.1, q⟩
  · exact q.elim
theorem AtR.ins {C : Addr} {ns : List Str} {ts : List T} {v : V} (h : AtR K H A (.ins C ns ts) v) : ∃ a dx vs, v = .ref a ∧ ns.length = vs.length ∧ H a = some (.ins C dx (ns.zip vs)) ∧ AtL K H A ts vs := by
  rcases h with h | ⟨a, rfl, dx, vs, l, e, q⟩
  · simp only [At] at h
    obtain ⟨a, dx, vs, rfl, l, d, q⟩ := h
    exact ⟨a, dx, vs, rfl, l, d.1, q⟩
  · exact ⟨a, dx, vs, rfl, l, e, q⟩
theorem AtR.int {i : Int} {v : V} (h : AtR K H A (.int i) v) : v = .int i := h.elim (fun q => by simpa only [At] using q) fun ⟨_, _, q⟩ => q.elim
theorem AtR.str {i : Str} {v : V} (h : AtR K H A (.str i) v) : v = .str i := h.elim (fun q => by simpa only [At] using q) fun ⟨_, _, q⟩ => q.elim
theorem AtR.bl {i : Bool} {v : V} (h : AtR K H A (.bl i) v) : v = .bl i := h.elim (fun q => by simpa only [At] using q) fun ⟨_, _, q⟩ => q.elim
theorem AtR.non {v : V} (h : AtR K H A .non v) : v = .non := h.elim (fun q => by simpa only [At] using q) fun ⟨_, _, q⟩ => q.elim
theorem AtR.ob {a : Addr} {v : V} (h : AtR K H A (.ob a) v) : v = .ref a := h.elim (fun q => by simpa only [At] using q) fun ⟨_, _, q⟩ => q.elim
theorem at_int {i : Int} : At K H A (.int i) (.int i) := by simp only [At]
theorem at_str {i : Str} : At K H A (.str i) (.str i) := by simp only [At]
theorem at_bl {i : Bool} : At K H A (.bl i) (.bl i) := by simp only [At]
theorem at_non : At K H A .non .non := by simp only [At]
theorem at_tup {ts : List T} {a : Addr} {vs : List V} (h : SqT K H a vs) (q : AtL K H A ts vs) : At K H A (.tup ts) (.ref a) := by simp only [At]; exact ⟨a, vs, rfl, h, q⟩
theorem RetX.env {r : Rt} {v : V} (h : RetX K Z tm O ρ σ H r v) : EnvAt K Z tm O ρ σ H := by
  cases r with
  | vw t => exact h.1
  | fr t => obtain ⟨a, _, I, _⟩ := h; exact I.unex
theorem RetX.at {r : Rt} {v : V} (h : RetX K Z tm O ρ σ H r v) : At K H (av Z O) r.t v := by
  cases r with
  | vw t => exact h.2
  | fr t =>
    obtain ⟨a, rfl, I, q, _, hx⟩ := h
    refine (q.fewer sub_av_ex).at fun z => ?_
    rcases List.mem_append.mp z with z | z
    · exact (I.own a z).2.1 List.mem_cons_self
    · exact hx z
theorem EnvAt.newL (I : EnvAt K Z tm O ρ σ H) {a : Addr} {ts : List T} {vs : List V} (h : H a = none) (q : AtL K H (av Z O) ts vs) : RetX K Z tm O ρ σ (upd H a (.lst vs)) (.fr (.lst ts)) (.ref a) := by
  obtain ⟨n1, n2, n3⟩ := I.fresh h
  exact ⟨a, rfl, I.new h rfl, ⟨vs, upd_same, (q.more fun b hb => (av_ex_sub b hb).imp id fun e => by rw [e]; exact h).same (same_upd h)⟩, n3, n2⟩
end
structure Bx (p : List (T × V) → Prop) : Prop where
  h : ∀ tm, p tm
section
variable (X : Cx) (Z : Zc)
def lR (tm : List (T × V)) (f : FE) : TE := fun σ H Q => ∃ ρ O q, EnvAt X.K Z tm O ρ σ H ∧ f ρ q ∧ ∀ t, q t → ∀ v H', Same H H' → AtR X.K H' (av Z O) t v → Q v H'
def lE (tm : List (T × V)) (f : FE) : TE := fun σ H Q => ∃ ρ O q, EnvAt X.K Z tm O ρ σ H ∧ f ρ q ∧ ∀ t, q t → ∀ v H', Same H H' → At X.K H' (av Z O) t v → Q v H'
def lP (tm : List (T × V)) (f : FP) : TE := fun σ H Q => ∃ ρ O q, EnvAt X.K Z tm O ρ σ H ∧ f ρ q ∧ ∀ r, q r → ∀ v H', Same H H' → RetX X.K Z tm O ρ σ H' r v → Q v H'
def lX (tm : List (T × V)) (f : FX) : TE := fun σ H Q => ∃ ρ O q, EnvAt X.K Z tm O ρ σ H ∧ f ρ q ∧ ∀ ρ' r, q ρ' r → ∀ O' v H', RetX X.K Z tm O' ρ' σ H' r v → Q v H'
def lB (tm : List (T × V)) (f : FB) : TT := fun σ H Q => ∃ ρ O q, EnvAt X.K Z tm O ρ σ H ∧ f ρ q ∧ ∀ b, q b → ∀ H', Same H H' → Q b H'
def lA (tm : List (T × V)) (f : FA) : TA := fun σ H Q => ∃ ρ O q, EnvAt X.K Z tm O ρ σ H ∧ f ρ q ∧ ∀ ts, q ts → ∀ vs H', Same H H' → AtL X.K H' (av Z O) ts vs → Q vs H'
def lAR (tm : List (T × V)) (f : FA) : TA := fun σ H Q => ∃ ρ O q, EnvAt X.K Z tm O ρ σ H ∧ f ρ q ∧ ∀ ts, q ts → ∀ vs H', Same H H' → Paired (fun v t => AtR X.K H' (av Z O) t v) vs ts → Q vs H'
def VR (e : Expr) (f : FE) : Prop := Bx fun tm => PE X e (lR X Z tm f)
instance {e : Expr} {f : FE} : CoeFun (VR X Z e f) fun _ => ∀ tm, PE X e (lR X Z tm f) := ⟨fun h => Bx.h h⟩
def VE (e : Expr) (f : FE) : Prop := Bx fun tm => PE X e (lE X Z tm f)
instance {e : Expr} {f : FE} : CoeFun (VE X Z e f) fun _ => ∀ tm, PE X e (lE X Z tm f) := ⟨fun h => Bx.h h⟩
def VP (e : Expr) (f : FP) : Prop := Bx fun tm => PE X e (lP X Z tm f)
instance {e : Expr} {f : FP} : CoeFun (VP X Z e f) fun _ => ∀ tm, PE X e (lP X Z tm f) := ⟨fun h => Bx.h h⟩
def VX (e : Expr) (f : FX) : Prop := Bx fun tm => PE X e (lX X Z tm f)
instance {e : Expr} {f : FX} : CoeFun (VX X Z e f) fun _ => ∀ tm, PE X e (lX X Z tm f) := ⟨fun h => Bx.h h⟩
def VC (e : Expr) (f : FB) : Prop := Bx fun tm => PT X e (lB X Z tm f)
instance {e : Expr} {f : FB} : CoeFun (VC X Z e f) fun _ => ∀ tm, PT X e (lB X Z tm f) := ⟨fun h => Bx.h h⟩
def VW (e : Expr) (f : FB) : Prop := Bx fun tm => PW X e (lB X Z tm f)
instance {e : Expr} {f : FB} : CoeFun (VW X Z e f) fun _ => ∀ tm, PW X e (lB X Z tm f) := ⟨fun h => Bx.h h⟩
def VA (es : List Expr) (f : FA) : Prop := Bx fun tm => PA X es (lA X Z tm f)
instance {es : List Expr} {f : FA} : CoeFun (VA X Z es f) fun _ => ∀ tm, PA X es (lA X Z tm f) := ⟨fun h => Bx.h h⟩
def VAR (es : List Expr) (f : FA) : Prop := Bx fun tm => PA X es (lAR X Z tm f)
instance {es : List Expr} {f : FA} : CoeFun (VAR X Z es f) fun _ => ∀ tm, PA X es (lAR X Z tm f) := ⟨fun h => Bx.h h⟩
end
theorem PE.weak {X : Cx} {e : Expr} {t t' : TE} (h : PE X e t) (hw : ∀ σ H Q, t' σ H Q → t σ H Q) : PE X e t' := fun pins s σ H Q I q => h pins s σ H Q I (hw _ _ _ q)
theorem PT.weak {X : Cx} {e : Expr} {t t' : TT} (h : PT X e t) (hw : ∀ σ H Q, t' σ H Q → t σ H Q) : PT X e t' := fun pins s σ H Q I q => h pins s σ H Q I (hw _ _ _ q)
theorem PW.weak {X : Cx} {e : Expr} {t t' : TT} (h : PW X e t) (hw : ∀ σ H Q, t' σ H Q → t σ H Q) : PW X e t' := fun wh pins s σ H Q I q => h wh pins s σ H Q I (hw _ _ _ q)
theorem PA.weak {X : Cx} {e : List Expr} {t t' : TA} (h : PA X e t) (hw : ∀ σ H Q, t' σ H Q → t σ H Q) : PA X e t' := fun pos pins s σ H Q I q => h pos pins s σ H Q I (hw _ _ _ q)
theorem PS.weak {X : Cx} {b : Stmt} {t t' : TS} (h : PS X b t) (hw : ∀ D σ H, t' D σ H → t D σ H) : PS X b t' := fun pins s σ H D I q => h pins s σ H D I (hw D σ H q)
theorem PSs.weak' {X : Cx} {b : List Stmt} {t t' : TS} (h : PSs X b t) (hw : ∀ D σ H, t' D σ H → t D σ H) : PSs X b t' := fun pins s σ H D I q => h pins s σ H D I (hw D σ H q)
section
variable {X : Cx} {Z : Zc} {e a b : Expr} {es : List Expr} {pos : Pos}
theorem VE.vr {f : FE} (h : VE X Z e f) : VR X Z e f := .mk fun tm => PE.weak (h tm) fun σ H Q ⟨ρ, O, q, I, hf, k⟩ => ⟨ρ, O, q, I, hf, fun t ht v H' s z => k t ht v H' s (.inl z)⟩
def fT (f : FP) : FE := fun ρ Q => f ρ fun r => Q r.t
def fV (f : FE) : FP := fun ρ Q => f ρ fun t => Q (.vw t)
def fX (f : FP) : FX := fun ρ Q => f ρ fun r => Q ρ r
theorem VP.ve {f : FP} (h : VP X Z e f) : VE X Z e (fT f) := .mk fun tm => PE.weak (h tm) fun σ H Q ⟨ρ, O, q, I, hf, k⟩ => ⟨ρ, O, fun r => q r.t, I, hf, fun r hr v H' s z => k r.t hr v H' s z.at⟩
theorem VP.vr {f : FP} (h : VP X Z e f) : VR X Z e (fT f) := h.ve.vr
theorem VP.vx {f : FP} (h : VP X Z e f) : VX X Z e (fX f) := .mk fun tm => PE.weak (h tm) fun σ H Q ⟨ρ, O, q, I, hf, k⟩ => ⟨ρ, O, fun r => q ρ r, I, hf, fun r hr v H' s z => k ρ r hr O v H' z⟩
theorem VE.vp {f : FE} (h : VE X Z e f) : VP X Z e (fV f) := .mk fun tm => PE.weak (h tm) fun σ H Q ⟨ρ, O, q, I, hf, k⟩ => ⟨ρ, O, fun t => q (.vw t), I, hf, fun t hr v H' s z => k (.vw t) hr v H' s ⟨I.same s, z⟩⟩
def fVar (i : Nat) : FE := fun ρ Q => match ρ[i]? with
  | some (some (t, false)) => Q t
  | _ => False
def fVarR (i : Nat) : FE := fun ρ Q => match ρ[i]? with
  | some (some (t, _)) => Q t
  | _ => False
theorem ve_var (i : Nat) {x : Str} (hN : X.N[i]? = some x := by rfl) (hv : Vis X.env.scope x := by first | exact Or.inl rfl | exact Or.inr (Or.inl rfl) | exact Or.inr (Or.inr rfl)) (hd : (x == ("__debug__" : Str)) = false := by decide)
    (hcd : (x == ("__classdict__" : Str)) = false := by decide) : VE X Z (.Name x pos) (fVar i) := .mk fun tm => PE.weak (pe_var hN hv hd hcd) fun σ H Q ⟨ρ, O, q, I, hf, k⟩ => by
  unfold fVar at hf
  split at hf
  · rename_i t e
    obtain ⟨o, s, h1, h2, rfl, v, rfl, h3⟩ := I.sl i _ e
    exact ⟨v, h2, k t hf v H (Same.refl H) h3⟩
  · exact hf.elim
theorem vr_var (i : Nat) {x : Str} (hN : X.N[i]? = some x := by rfl) (hv : Vis X.env.scope x := by first | exact Or.inl rfl | exact Or.inr (Or.inl rfl) | exact Or.inr (Or.inr rfl)) (hd : (x == ("__debug__" : Str)) = false := by decide)
    (hcd : (x == ("__classdict__" : Str)) = false := by decide) : VR X Z (.Name x pos) (fVarR i) := .mk fun tm => PE.weak (pe_var hN hv hd hcd) fun σ H Q ⟨ρ, O, q, I, hf, k⟩ => by
  unfold fVarR at hf
  split at hf
  · rename_i t b e
    obtain ⟨o, s, h1, h2, h3⟩ := I.sl i _ e
    cases b with
    | false => obtain ⟨rfl, v, rfl, h3⟩ := h3; exact ⟨v, h2, k t hf v H (Same.refl H) (.inl h3)⟩
    | true => obtain ⟨a, rfl, rfl, h3⟩ := h3; exact ⟨_, h2, k t hf _ H (Same.refl H) (.inr ⟨a, rfl, h3⟩)⟩
  · exact hf.elim
def fC (t : T) : FP := fun _ Q => Q (.vw t)
theorem vp_C {t : T} {v : V} (h : PE X e (tC v)) (ht : ∀ H A, At X.K H A t v) : VP X Z e (fC t) := .mk fun tm => PE.weak h fun σ H Q ⟨ρ, O, q, I, hf, k⟩ => k _ hf v H (Same.refl H) ⟨I, ht _ _⟩
theorem vp_int {i j pos} : VP X Z (.Constant (.int i) j pos) (fC (.int i)) := vp_C pe_int fun _ _ => at_int
theorem vp_bl {i j pos} : VP X Z (.Constant (.bool i) j pos) (fC (.bl i)) := vp_C pe_bl fun _ _ => at_bl
theorem vp_str {i j pos} : VP X Z (.Constant (.str i) j pos) (fC (.str i)) := vp_C pe_str fun _ _ => at_str
theorem vp_non {j pos} : VP X Z (.Constant .none j pos) (fC .non) := vp_C pe_non fun _ _ => at_non
def OpT (K : PySem.W.Frag) (r : R2) (p : T → T → (Rt → Prop) → Prop) : Prop :=
  ∀ (Z : Zc) (tm : List (T × V)) (O : List (Option Addr)) (ρ : En) (σ : St) (H : Hp) (x y : T) (v w : V) (q : Rt → Prop) (Q : VK), EnvAt K Z tm O ρ σ H → AtR K H (av Z O) x v → AtR K H (av Z O) y w → p x y q →
    (∀ t, q t → ∀ u H', Same H H' → RetX K Z tm O ρ σ H' t u → Q u H') → r v w H Q
def f2 (fa fb : FE) (p : T → T → (Rt → Prop) → Prop) : FP := fun ρ Q => fa ρ fun x => fb ρ fun y => p x y Q
theorem two {r : R2} {fa fb : FE} {p : T → T → (Rt → Prop) → Prop} (ho : OpT X.K r p) {tm : List (T × V)} : ∀ σ H Q, lP X Z tm (f2 fa fb p) σ H Q → tOp r (lR X Z tm fa) (lR X Z tm fb) σ H Q := fun σ H Q ⟨ρ, O, q, I, hf, k⟩ =>
  ⟨ρ, O, fun x => fb ρ fun y => p x y q, I, hf, fun x hx v H1 s1 a1 => ⟨ρ, O, fun y => p x y q, I.same s1, hx, fun y hy w H2 s2 a2 =>
    ho Z tm O ρ σ H2 x y v w q Q ((I.same s1).same s2) (a1.same s2) a2 hy fun t ht u H' s a => k t ht u H' ((s1.trans s2).trans s) a⟩⟩
theorem vp_bin {op : Operator} {r : R2} {fa fb : FE} {p : T → T → (Rt → Prop) → Prop} (h : OpR X (binaryOp op) r) (ho : OpT X.K r p) (ha : VR X Z a fa) (hb : VR X Z b fb) : VP X Z (.BinOp a op b pos) (f2 fa fb p) :=
  .mk fun tm => PE.weak (pe_op h (ha tm) (hb tm)) (two ho)
theorem vp_cmp {op : CmpOp} {r : R2} {fa fb : FE} {p : T → T → (Rt → Prop) → Prop} (h : OpR X (compareOp op) r) (ho : OpT X.K r p) (ha : VR X Z a fa) (hb : VR X Z b fb) (hm : behindInMarks op b = false) : VP X Z (.Compare a [op] [b] pos) (f2 fa fb p) :=
  .mk fun tm => PE.weak (pe_cmpR h (ha tm) (hb tm) hm) (two ho)
def fTst (f : FP) : FB := fun ρ Q => f ρ fun r => match r with
  | .vw (.bl c) => Q c
  | _ => False
theorem tst_ok {r : Rt} {Q : Bool → Prop} (h : match r with | .vw (.bl c) => Q c | _ => False) : ∃ c, r = .vw (.bl c) ∧ Q c := by
  split at h
  · exact ⟨_, rfl, h⟩
  · exact h.elim
theorem vc_cmp {op : CmpOp} {r : R2} {fa fb : FE} {p : T → T → (Rt → Prop) → Prop} (h : OpR X (compareOp op) r) (ho : OpT X.K r p) (ha : VR X Z a fa) (hb : VR X Z b fb) (hm : behindInMarks op b = false) : VC X Z (.Compare a [op] [b] pos) (fTst (f2 fa fb p)) :=
  .mk fun tm => PT.weak (pt_cmpR h (ha tm) (hb tm) hm) fun σ H Q ⟨ρ, O, q, I, hf, k⟩ => two ho σ H _ ⟨ρ, O, _, I, hf, fun t ht u H' s a => by
    obtain ⟨c, rfl, hc⟩ := tst_ok ht
    have e := a.2
    simp only [At] at e
    exact ⟨c, e, k c hc H' s⟩⟩
theorem vc_val {f : FP} (h : VP X Z e f) (he : ∀ whole, isTrue e X.env whole = (do let v ← whole; standAt e.pos; holding [v] (truthy v)) := by intro _; rfl) : VC X Z e (fTst f) :=
  .mk fun tm => PT.weak (pt_val (h tm) he) fun σ H Q ⟨ρ, O, q, I, hf, k⟩ => ⟨ρ, O, _, I, hf, fun t ht u H' s a => by
    obtain ⟨c, rfl, hc⟩ := tst_ok ht
    have e := a.2
    simp only [At] at e
    exact ⟨c, e, k c hc H' s⟩⟩
def fAnd (f g : FB) : FB := fun ρ Q => f ρ fun c => if c = true then g ρ Q else Q false
def fNot (f : FB) : FB := fun ρ Q => f ρ fun c => Q (!c)
theorem VW.vc {f : FB} (h : VW X Z e f) : VC X Z e f := .mk fun tm => PW.pt (h tm)
theorem vw_and1 {f : FB} (h : VC X Z a f) : VW X Z (.BoolOp .And [a] pos) f := .mk fun tm => pw_and1 (h tm)
theorem vw_and {rest : List Expr} {f g : FB} (h : VC X Z a f) (h' : VW X Z (.BoolOp .And (b :: rest) pos) g) : VW X Z (.BoolOp .And (a :: b :: rest) pos) (fAnd f g) :=
  .mk fun tm => PW.weak (pw_and (h tm) (h' tm)) fun σ H Q ⟨ρ, O, q, I, hf, k⟩ => ⟨ρ, O, _, I, hf, fun c hc H1 s1 => by
    cases c with
    | true => rw [if_pos rfl] at hc ⊢; exact ⟨ρ, O, q, I.same s1, hc, fun b hb H' s => k b hb H' (s1.trans s)⟩
    | false => rw [if_neg Bool.false_ne_true] at hc ⊢; exact k false hc H1 s1⟩
theorem vc_not {f : FB} (h : VC X Z a f) : VC X Z (.UnaryOp .Not a pos) (fNot f) :=
  .mk fun tm => PT.weak (pt_not (h tm)) fun σ H Q ⟨ρ, O, q, I, hf, k⟩ => ⟨ρ, O, _, I, hf, fun c hc H1 s1 => k _ hc H1 s1⟩
def fAndV (f g : FP) : FP := fun ρ Q => f ρ fun r => match r with
  | .vw (.bl true) => g ρ Q
  | .vw (.bl false) => Q (.vw (.bl false))
  | _ => False
def fNotV (f : FP) : FP := fun ρ Q => f ρ fun r => match r with
  | .vw (.bl c) => Q (.vw (.bl (!c)))
  | _ => False
theorem vp_one {op} {f : FP} (h : VP X Z a f) : VP X Z (.BoolOp op [a] pos) f := .mk fun tm => pe_one (h tm)
theorem vp_and {rest : List Expr} {f g : FP} (h : VP X Z a f) (h' : VP X Z (.BoolOp .And (b :: rest) pos) g) : VP X Z (.BoolOp .And (a :: b :: rest) pos) (fAndV f g) :=
  .mk fun tm => PE.weak (pe_and (h tm) (h' tm)) fun σ H Q ⟨ρ, O, q, I, hf, k⟩ => ⟨ρ, O, _, I, hf, fun r hr v H1 s1 z => by
    split at hr
    · have e := z.2; simp only [At] at e
      exact ⟨true, e, by rw [if_pos rfl]; exact ⟨ρ, O, q, I.same s1, hr, fun b hb v H' s => k b hb v H' (s1.trans s)⟩⟩
    · have e := z.2; simp only [At] at e
      exact ⟨false, e, by rw [if_neg Bool.false_ne_true]; exact k _ hr _ H1 s1 ⟨I.same s1, at_bl⟩⟩
    · exact hr.elim⟩
theorem vp_not {f : FP} (h : VP X Z a f) : VP X Z (.UnaryOp .Not a pos) (fNotV f) :=
  .mk fun tm => PE.weak (pe_not (h tm)) fun σ H Q ⟨ρ, O, q, I, hf, k⟩ => ⟨ρ, O, _, I, hf, fun r hr v H1 s1 z => by
    split at hr
    · have e := z.2; simp only [At] at e
      exact ⟨_, e, k _ hr _ H1 s1 ⟨I.same s1, at_bl⟩⟩
    · exact hr.elim⟩
def fNil : FA := fun _ Q => Q []
def fCons (f : FE) (g : FA) : FA := fun ρ Q => f ρ fun t => g ρ fun ts => Q (t :: ts)
theorem va_nil : VA X Z [] fNil := .mk fun tm => PA.weak pa_nil fun σ H Q ⟨ρ, O, q, I, hf, k⟩ => k _ hf [] H (Same.refl H) AtL.nil
theorem va_cons {f : FE} {g : FA} (h : VE X Z e f) (h' : VA X Z es g) (hs : starEach (e :: es) X.env = (false, eval e X.env) :: starEach es X.env := by rfl) : VA X Z (e :: es) (fCons f g) :=
  .mk fun tm => PA.weak (pa_cons (h tm) (h' tm) hs) fun σ H Q ⟨ρ, O, q, I, hf, k⟩ => ⟨ρ, O, _, I, hf, fun t ht v H1 s1 a1 => ⟨ρ, O, _, I.same s1, ht, fun ts hts vs H2 s2 a2 => k _ hts _ H2 (s1.trans s2) (AtL.cons (a1.same s2) a2)⟩⟩
theorem var_nil : VAR X Z [] fNil := .mk fun tm => PA.weak pa_nil fun σ H Q ⟨ρ, O, q, I, hf, k⟩ => k _ hf [] H (Same.refl H) .nil
theorem var_cons {f : FE} {g : FA} (h : VR X Z e f) (h' : VAR X Z es g) (hs : starEach (e :: es) X.env = (false, eval e X.env) :: starEach es X.env := by rfl) : VAR X Z (e :: es) (fCons f g) :=
  .mk fun tm => PA.weak (pa_cons (h tm) (h' tm) hs) fun σ H Q ⟨ρ, O, q, I, hf, k⟩ => ⟨ρ, O, _, I, hf, fun t ht v H1 s1 a1 => ⟨ρ, O, _, I.same s1, ht, fun ts hts vs H2 s2 a2 => k _ hts _ H2 (s1.trans s2) (.cons (a1.same s2) a2)⟩⟩
def fTup (g : FA) : FP := fun ρ Q => g ρ fun ts => ts.length ≤ sizeLine ∧ Q (.vw (.tup ts))
def fLst (g : FA) : FP := fun ρ Q => g ρ fun ts => ts.length ≤ sizeLine ∧ Q (.fr (.lst ts))
theorem vp_tup {g : FA} {x1} (h : VA X Z es g) : VP X Z (.Tuple es x1 pos) (fTup g) :=
  .mk fun tm => PE.weak (pe_tup (h tm)) fun σ H Q ⟨ρ, O, q, I, hf, k⟩ => ⟨ρ, O, _, I, hf, fun ts hts vs H1 s1 a1 => ⟨by rw [a1.length]; exact hts.1, fun p hp => k _ hts.2 _ _ (s1.trans (same_upd hp)) ⟨(I.same s1).same (same_upd hp), at_tup (SqT.of upd_same) (a1.same (same_upd hp))⟩⟩⟩
theorem vp_lst {g : FA} (h : VA X Z es g) : VP X Z (.List es pos) (fLst g) :=
  .mk fun tm => PE.weak (pe_lst (h tm)) fun σ H Q ⟨ρ, O, q, I, hf, k⟩ => ⟨ρ, O, _, I, hf, fun ts hts vs H1 s1 a1 => ⟨by rw [a1.length]; exact hts.1, fun p hp => k _ hts.2 _ _ (s1.trans (same_upd hp)) ((I.same s1).newL hp a1)⟩⟩
end
end VT
set_option Elab.async false
set_option linter.all false
set_option maxRecDepth 100000
set_option maxHeartbeats 4000000
namespace VT
open PySem PySem.Spec PyProof.Rows L2
mutual
def eqT : T → T → Bool
  | .non, .non => true
  | .bl a, .bl b => a == b
  | .bl a, .int b => (if a then 1 else 0) == b
  | .int a, .bl b => a == (if b then 1 else 0)
  | .int a, .int b => a == b
  | .str a, .str b => a == b
  | .tup a, .tup b => eqTs a b
  | .lst a, .lst b => eqTs a b
  | _, _ => false
def eqTs : List T → List T → Bool
  | [], [] => true
  | a :: as, b :: bs => eqT a b && eqTs as bs
  | _, _ => false
end
mutual
def plainT : T → Bool
  | .tup l => plainTs l
  | .lst l => plainTs l
  | .dk _ _ => false
  | .dt _ _ => false
  | .df _ _ _ => false
  | .ins _ _ _ => false
  | .pin _ _ => false
  | .ob _ => false
  | .ty _ => false
  | _ => true
def plainTs : List T → Bool
  | [] => true
  | t :: ts => plainT t && plainTs ts
end
mutual
def dep : T → Nat
  | .tup l => deps l + 1
  | .lst l => deps l + 1
  | _ => 0
def deps : List T → Nat
  | [] => 0
  | t :: ts => max (dep t) (deps ts)
end
mutual
theorem eqT_refl : ∀ (t : T), plainT t = true → eqT t t = true
  | .non, _ => by simp [eqT]
  | .bl _, _ => by simp [eqT]
  | .int _, _ => by simp [eqT]
  | .str _, _ => by simp [eqT]
  | .tup l, h => by simp only [plainT] at h; simp only [eqT]; exact eqTs_refl l h
  | .lst l, h => by simp only [plainT] at h; simp only [eqT]; exact eqTs_refl l h
  | .dk _ _, h => by simp only [plainT] at h; cases h
  | .dt _ _, h => by simp only [plainT] at h; cases h
  | .df _ _ _, h => by simp only [plainT] at h; cases h
  | .ins _ _ _, h => by simp only [plainT] at h; cases h
  | .pin _ _, h => by simp only [plainT] at h; cases h
  | .ob _, h => by simp only [plainT] at h; cases h
  | .ty _, h => by simp only [plainT] at h; cases h
theorem eqTs_refl : ∀ (t : List T), plainTs t = true → eqTs t t = true
  | [], _ => by simp [eqTs]
  | t :: ts, h => by
    simp only [plainTs, Bool.and_eq_true] at h
    simp only [eqTs, Bool.and_eq_true]
    exact ⟨eqT_refl t h.1, eqTs_refl ts h.2⟩
end
theorem eqTs_len : ∀ {a b : List T}, eqTs a b = true → a.length = b.length
  | [], [], _ => rfl
  | a :: as, b :: bs, h => by simp only [eqTs, Bool.and_eq_true] at h; simp [eqTs_len h.2]
  | [], _ :: _, h => by simp [eqTs] at h
  | _ :: _, [], h => by simp [eqTs] at h
theorem eqTs_all : ∀ {a b : List T}, a.length = b.length → eqTs a b = (List.range a.length).all fun j => match a[j]?, b[j]? with
    | some x, some y => eqT x y
    | _, _ => true
  | [], [], _ => by simp [eqTs]
  | a :: as, b :: bs, h => by
    have ih := eqTs_all (a := as) (b := bs) (by simpa using h)
    simp only [eqTs]
    rw [ih, List.length_cons, List.range_succ_eq_map, List.all_cons, List.all_map]
    rfl
  | [], _ :: _, h => by simp at h
  | _ :: _, [], h => by simp at h
theorem eqTs_min : ∀ {a b : List T}, eqTs a b = ((List.range (min a.length b.length)).all (fun j => match a[j]?, b[j]? with
    | some x, some y => eqT x y
    | _, _ => true) && a.length == b.length)
  | a, b => by
    by_cases h : a.length = b.length
    · rw [eqTs_all h, h, Nat.min_self]; simp
    · have e : (a.length == b.length) = false := by simpa using h
      rw [e, Bool.and_false]
      cases q : eqTs a b with
      | false => rfl
      | true => exact absurd (eqTs_len q) h
section
variable {X : Cx} {pins : List (Addr × Obj)} {σ : St} {H : Hp} {s : Shared} {O O' : List Addr}
theorem not_both (I : Inv X pins σ H s) {a : Addr} {xs ys : List V} (h : SqL X.K H a xs) (h' : SqT X.K H a ys) : False := by
  obtain ⟨its, _, p, _⟩ := I.list h
  obtain ⟨its2, _, p2, _⟩ := I.tuple h'
  obtain ⟨o, n, e, c, _⟩ := p
  obtain ⟨o2, e2, c2, _⟩ := p2
  rw [e] at e2
  cases e2
  rw [c] at c2
  injection c2 with c2
  exact absurd c2 (by decide)
mutual
theorem At.inj (I : Inv X pins σ H s) : ∀ {t u : T} {v : V}, plainT t = true → plainT u = true → At X.K H O t v → At X.K H O' u v → t = u
  | .non, u, v, _, pu, h, h' => by
    simp only [At] at h; subst h
    cases u <;> simp only [At] at h' <;> first | rfl | (simp only [plainT] at pu; cases pu; done) | (obtain ⟨_, _, e, _⟩ := h'; cases e) | (cases h'; done)
  | .bl b, u, v, _, pu, h, h' => by
    simp only [At] at h; subst h
    cases u <;> simp only [At] at h' <;> first | (simp only [plainT] at pu; cases pu; done) | (obtain ⟨_, _, e, _⟩ := h'; cases e; done) | (cases h'; rfl) | (cases h'; done)
  | .int b, u, v, _, pu, h, h' => by
    simp only [At] at h; subst h
    cases u <;> simp only [At] at h' <;> first | (simp only [plainT] at pu; cases pu; done) | (obtain ⟨_, _, e, _⟩ := h'; cases e; done) | (cases h'; rfl) | (cases h'; done)
  | .str b, u, v, _, pu, h, h' => by
    simp only [At] at h; subst h
    cases u <;> simp only [At] at h' <;> first | (simp only [plainT] at pu; cases pu; done) | (obtain ⟨_, _, e, _⟩ := h'; cases e; done) | (cases h'; rfl) | (cases h'; done)
  | .dk _ _, _, _, p, _, _, _ => by simp only [plainT] at p; cases p
  | .dt _ _, _, _, p, _, _, _ => by simp only [plainT] at p; cases p
  | .df _ _ _, _, _, p, _, _, _ => by simp only [plainT] at p; cases p
  | .ins _ _ _, _, _, p, _, _, _ => by simp only [plainT] at p; cases p
  | .pin _ _, _, _, p, _, _, _ => by simp only [plainT] at p; cases p
  | .ob _, _, _, p, _, _, _ => by simp only [plainT] at p; cases p
  | .ty _, _, _, p, _, _, _ => by simp only [plainT] at p; cases p
  | .tup ts, u, v, p, pu, h, h' => by
    simp only [At] at h
    obtain ⟨a, vs, rfl, h1, h2⟩ := h
    cases u with
    | tup us =>
      simp only [At] at h'
      obtain ⟨b, ws, e, g1, g2⟩ := h'
      cases e
      cases I.tuple_inj h1 g1
      simp only [plainT] at p pu
      rw [AtL.inj I p pu h2 g2]
    | lst us =>
      simp only [At] at h'
      obtain ⟨b, ws, e, g1, g2⟩ := h'
      cases e
      exact (not_both I g1.sq h1).elim
    | dk _ _ => simp only [plainT] at pu; cases pu
    | dt _ _ => simp only [plainT] at pu; cases pu
    | df _ _ _ => simp only [plainT] at pu; cases pu
    | ins _ _ _ => simp only [plainT] at pu; cases pu
    | pin _ _ => simp only [plainT] at pu; cases pu
    | ob _ => simp only [plainT] at pu; cases pu
    | ty _ => simp only [plainT] at pu; cases pu
    | _ => simp only [At] at h'; cases h'
  | .lst ts, u, v, p, pu, h, h' => by
    simp only [At] at h
    obtain ⟨a, vs, rfl, h1, h2⟩ := h
    cases u with
    | lst us =>
      simp only [At] at h'
      obtain ⟨b, ws, e, g1, g2⟩ := h'
      cases e
      cases I.list_inj h1.sq g1.sq
      simp only [plainT] at p pu
      rw [AtL.inj I p pu h2 g2]
    | tup us =>
      simp only [At] at h'
      obtain ⟨b, ws, e, g1, g2⟩ := h'
      cases e
      exact (not_both I h1.sq g1).elim
    | dk _ _ => simp only [plainT] at pu; cases pu
    | dt _ _ => simp only [plainT] at pu; cases pu
    | df _ _ _ => simp only [plainT] at pu; cases pu
    | ins _ _ _ => simp only [plainT] at pu; cases pu
    | pin _ _ => simp only [plainT] at pu; cases pu
    | ob _ => simp only [plainT] at pu; cases pu
    | ty _ => simp only [plainT] at pu; cases pu
    | _ => simp only [At] at h'; cases h'
theorem AtL.inj (I : Inv X pins σ H s) : ∀ {ts us : List T} {vs : List V}, plainTs ts = true → plainTs us = true → AtL X.K H O ts vs → AtL X.K H O' us vs → ts = us
  | [], [], _, _, _, _, _ => rfl
  | [], _ :: _, _, _, _, h, h' => by simp only [AtL] at h h'; subst h; obtain ⟨_, _, e, _⟩ := h'; cases e
  | _ :: _, [], _, _, _, h, h' => by simp only [AtL] at h h'; subst h'; obtain ⟨_, _, e, _⟩ := h; cases e
  | t :: ts, u :: us, _, p, pu, h, h' => by
    simp only [AtL] at h h'
    simp only [plainTs, Bool.and_eq_true] at p pu
    obtain ⟨v, r, rfl, h1, h2⟩ := h
    obtain ⟨v', r', e, g1, g2⟩ := h'
    cases e
    rw [At.inj I p.1 pu.1 h1 g1, AtL.inj I p.2 pu.2 h2 g2]
end
theorem deps_le : ∀ {ts : List T} {j : Nat} {x : T}, ts[j]? = some x → dep x ≤ deps ts
  | [], _, _, h => by simp at h
  | t :: ts, 0, x, h => by simp at h; subst h; simp only [deps]; omega
  | t :: ts, j + 1, x, h => by have := deps_le (ts := ts) (j := j) (x := x) (by simpa using h); simp only [deps]; omega
theorem plains_get : ∀ {ts : List T} {j : Nat} {x : T}, plainTs ts = true → ts[j]? = some x → plainT x = true
  | [], _, _, _, h => by simp at h
  | t :: ts, 0, x, p, h => by simp at h; subst h; simp only [plainTs, Bool.and_eq_true] at p; exact p.1
  | t :: ts, j + 1, x, p, h => by simp only [plainTs, Bool.and_eq_true] at p; exact plains_get (ts := ts) (j := j) p.2 (by simpa using h)
theorem in1_units (A : Around) : A.in1.units = A.units + 1 := by
  first | rfl | simp [Around.in1, Around.units]
theorem items_eq (I : Inv X pins σ H s) {ts us : List T} {vs ws : List V} {its its2 : List Value} {A : Around} (h1 : AtL X.K H O ts vs) (h2 : AtL X.K H O' us ws) (r1 : Vals vs its) (r2 : Vals ws its2)
    (key : ∀ (j : Nat) x y v w u u', ts[j]? = some x → us[j]? = some y → At X.K H O x v → At X.K H O' y w → RelV v u → RelV w u' → SeqAt.EqAt A s u u' (eqT x y)) :
    ∀ (j : Nat) (g1 : j < its.toArray.size) (g2 : j < its2.toArray.size), SeqAt.EqAt A s its.toArray[j] its2.toArray[j] (match ts[j]?, us[j]? with
      | some x, some y => eqT x y
      | _, _ => true) := fun j g1 g2 => by
  have l1 := h1.length
  have l2 := h2.length
  have m1 := r1.length
  have m2 := r2.length
  simp only [List.size_toArray] at g1 g2
  have e1 : ts[j]? = some (ts[j]'(by omega)) := by simp
  have e2 : us[j]? = some (us[j]'(by omega)) := by simp
  obtain ⟨v, a1, a2⟩ := h1.get e1
  obtain ⟨w, b1, b2⟩ := h2.get e2
  obtain ⟨u, c1, c2⟩ := r1.get a1
  obtain ⟨u', d1, d2⟩ := r2.get b1
  have f1 : its.toArray[j] = u := by rw [List.getElem?_eq_getElem (by omega)] at c1; simpa using c1
  have f2 : its2.toArray[j] = u' := by rw [List.getElem?_eq_getElem (by omega)] at d1; simpa using d1
  rw [f1, f2, e1, e2]
  exact key j _ _ v w u u' e1 e2 a2 b2 c2 d2
theorem eqAt_T (I : Inv X pins σ H s) : ∀ (n : Nat) (t u : T) (v w : V) (a b : Value) (A : Around), dep t ≤ n → A.units + n < cLine → plainT t = true → plainT u = true → At X.K H O t v → At X.K H O' u w → RelV v a → RelV w b → SeqAt.EqAt A s a b (eqT t u) := by
  intro n
  induction n with
  | zero =>
    intro t u v w a b A hd hu pt pu ht hw rv rw'
    have hu' : A.units < cLine := by omega
    cases t with
    | tup l => simp only [dep] at hd; omega
    | lst l => simp only [dep] at hd; omega
    | dk _ _ => simp only [plainT] at pt; cases pt
    | dt _ _ => simp only [plainT] at pt; cases pt
    | df _ _ _ => simp only [plainT] at pt; cases pt
    | ins _ _ _ => simp only [plainT] at pt; cases pt
    | pin _ _ => simp only [plainT] at pt; cases pt
    | ob _ => simp only [plainT] at pt; cases pt
    | ty _ => simp only [plainT] at pt; cases pt
    | non =>
      simp only [At] at ht; subst ht; cases rv
      cases u with
      | tup l => simp only [At] at hw; obtain ⟨p, ws, rfl, q, _⟩ := hw; cases rw'; obtain ⟨_, _, p1, _⟩ := I.tuple q; simp only [eqT]; exact SeqAt.EqAt.none_tuple p1 hu'
      | lst l => simp only [At] at hw; obtain ⟨p, ws, rfl, q, _⟩ := hw; cases rw'; obtain ⟨_, _, p1, _⟩ := I.list q.sq; simp only [eqT]; exact SeqAt.EqAt.none_list p1.isList hu'
      | dk _ _ => simp only [plainT] at pu; cases pu
      | dt _ _ => simp only [plainT] at pu; cases pu
      | df _ _ _ => simp only [plainT] at pu; cases pu
      | ins _ _ _ => simp only [plainT] at pu; cases pu
      | pin _ _ => simp only [plainT] at pu; cases pu
      | ob _ => simp only [plainT] at pu; cases pu
      | ty _ => simp only [plainT] at pu; cases pu
      | non => simp only [At] at hw; subst hw; cases rw'; simp only [eqT]; exact SeqAt.EqAt.same _
      | bl c => simp only [At] at hw; subst hw; cases rw'; simp only [eqT]; exact SeqAt.EqAt.none_bool c
      | int c => simp only [At] at hw; subst hw; obtain ⟨t, rfl⟩ := rw'; simp only [eqT]; exact SeqAt.EqAt.none_int c t
      | str c => simp only [At] at hw; subst hw; obtain ⟨t, rfl⟩ := rw'; simp only [eqT]; exact SeqAt.EqAt.none_str c t
    | bl d =>
      simp only [At] at ht; subst ht; cases rv
      cases u with
      | tup l => simp only [At] at hw; obtain ⟨p, ws, rfl, q, _⟩ := hw; cases rw'; obtain ⟨_, _, p1, _⟩ := I.tuple q; simp only [eqT]; exact SeqAt.EqAt.bool_tuple d p1 hu'
      | lst l => simp only [At] at hw; obtain ⟨p, ws, rfl, q, _⟩ := hw; cases rw'; obtain ⟨_, _, p1, _⟩ := I.list q.sq; simp only [eqT]; exact SeqAt.EqAt.bool_list d p1.isList hu'
      | dk _ _ => simp only [plainT] at pu; cases pu
      | dt _ _ => simp only [plainT] at pu; cases pu
      | df _ _ _ => simp only [plainT] at pu; cases pu
      | ins _ _ _ => simp only [plainT] at pu; cases pu
      | pin _ _ => simp only [plainT] at pu; cases pu
      | ob _ => simp only [plainT] at pu; cases pu
      | ty _ => simp only [plainT] at pu; cases pu
      | non => simp only [At] at hw; subst hw; cases rw'; simp only [eqT]; exact SeqAt.EqAt.bool_none d
      | bl c => simp only [At] at hw; subst hw; cases rw'; simp only [eqT]; exact SeqAt.EqAt.bool_bool d c
      | int c => simp only [At] at hw; subst hw; obtain ⟨t, rfl⟩ := rw'; simp only [eqT]; exact SeqAt.EqAt.bool_int d c t
      | str c => simp only [At] at hw; subst hw; obtain ⟨t, rfl⟩ := rw'; simp only [eqT]; exact SeqAt.EqAt.bool_str d c t
    | int d =>
      simp only [At] at ht; subst ht; obtain ⟨t', rfl⟩ := rv
      cases u with
      | tup l => simp only [At] at hw; obtain ⟨p, ws, rfl, q, _⟩ := hw; cases rw'; obtain ⟨_, _, p1, _⟩ := I.tuple q; simp only [eqT]; exact SeqAt.EqAt.int_tuple d t' p1 hu'
      | lst l => simp only [At] at hw; obtain ⟨p, ws, rfl, q, _⟩ := hw; cases rw'; obtain ⟨_, _, p1, _⟩ := I.list q.sq; simp only [eqT]; exact SeqAt.EqAt.int_list d t' p1.isList hu'
      | dk _ _ => simp only [plainT] at pu; cases pu
      | dt _ _ => simp only [plainT] at pu; cases pu
      | df _ _ _ => simp only [plainT] at pu; cases pu
      | ins _ _ _ => simp only [plainT] at pu; cases pu
      | pin _ _ => simp only [plainT] at pu; cases pu
      | ob _ => simp only [plainT] at pu; cases pu
      | ty _ => simp only [plainT] at pu; cases pu
      | non => simp only [At] at hw; subst hw; cases rw'; simp only [eqT]; exact SeqAt.EqAt.int_none d t'
      | bl c => simp only [At] at hw; subst hw; cases rw'; simp only [eqT]; exact SeqAt.EqAt.int_bool d t' c
      | int c => simp only [At] at hw; subst hw; obtain ⟨t, rfl⟩ := rw'; simp only [eqT]; exact SeqAt.EqAt.int_int d t' c t
      | str c => simp only [At] at hw; subst hw; obtain ⟨t, rfl⟩ := rw'; simp only [eqT]; exact SeqAt.EqAt.int_str d t' c t
    | str d =>
      simp only [At] at ht; subst ht; obtain ⟨t', rfl⟩ := rv
      cases u with
      | tup l => simp only [At] at hw; obtain ⟨p, ws, rfl, q, _⟩ := hw; cases rw'; obtain ⟨_, _, p1, _⟩ := I.tuple q; simp only [eqT]; exact SeqAt.EqAt.str_tuple d t' p1 hu'
      | lst l => simp only [At] at hw; obtain ⟨p, ws, rfl, q, _⟩ := hw; cases rw'; obtain ⟨_, _, p1, _⟩ := I.list q.sq; simp only [eqT]; exact SeqAt.EqAt.str_list d t' p1.isList hu'
      | dk _ _ => simp only [plainT] at pu; cases pu
      | dt _ _ => simp only [plainT] at pu; cases pu
      | df _ _ _ => simp only [plainT] at pu; cases pu
      | ins _ _ _ => simp only [plainT] at pu; cases pu
      | pin _ _ => simp only [plainT] at pu; cases pu
      | ob _ => simp only [plainT] at pu; cases pu
      | ty _ => simp only [plainT] at pu; cases pu
      | non => simp only [At] at hw; subst hw; cases rw'; simp only [eqT]; exact SeqAt.EqAt.str_none d t'
      | bl c => simp only [At] at hw; subst hw; cases rw'; simp only [eqT]; exact SeqAt.EqAt.str_bool d t' c
      | int c => simp only [At] at hw; subst hw; obtain ⟨t, rfl⟩ := rw'; simp only [eqT]; exact SeqAt.EqAt.str_int d t' c t
      | str c => simp only [At] at hw; subst hw; obtain ⟨t, rfl⟩ := rw'; simp only [eqT]; exact SeqAt.EqAt.str_str d t' c t
  | succ n ih =>
    intro t u v w a b A hd hu pt pu ht hw rv rw'
    by_cases h0 : dep t ≤ n
    · exact ih t u v w a b A h0 (by omega) pt pu ht hw rv rw'
    · have hu' : A.units < cLine := by omega
      have hu1 : A.in1.units + n < cLine := by rw [in1_units]; omega
      cases t with
      | tup l =>
        simp only [plainT] at pt
        simp only [dep] at hd
        have ht0 := ht
        simp only [At] at ht
        obtain ⟨p, vs, rfl, h1, h2⟩ := ht
        cases rv
        obtain ⟨its, r1, p1, _⟩ := I.tuple h1
        cases u with
        | tup l' =>
          have hw0 := hw
          simp only [At] at hw
          obtain ⟨p', ws, rfl, g1, g2⟩ := hw
          cases rw'
          simp only [plainT] at pu
          by_cases e : p = p'
          · subst e
            have := At.inj I (t := .tup l) (u := .tup l') (by simp only [plainT]; exact pt) (by simp only [plainT]; exact pu) ht0 hw0
            rw [← this, eqT_refl _ (by simp only [plainT]; exact pt)]
            exact SeqAt.EqAt.same _
          · obtain ⟨its2, r2, p2, _⟩ := I.tuple g1
            refine SeqAt.EqAt.of_refs e ?_
            have := SeqAt.RcAt.tuples (A := A) p1 p2 hu' (items_eq I h2 g2 r1 r2 fun j x y v w u u' e1 e2 a1 a2 b1 b2 => ih x y v w u u' A.in1 (Nat.le_trans (deps_le e1) (by omega)) hu1 (plains_get pt e1) (plains_get pu e2) a1 a2 b1 b2)
            simp only [eqT]
            rw [eqTs_min]
            have e1 := r1.length
            have e2 := r2.length
            have e3 := h2.length
            have e4 := g2.length
            simp only [List.size_toArray] at this
            rw [← e1, ← e2, e3, e4] at this
            exact this
        | lst l' => simp only [At] at hw; obtain ⟨p', ws, rfl, q, _⟩ := hw; cases rw'; obtain ⟨_, _, p2, _⟩ := I.list q.sq; simp only [eqT]; exact SeqAt.EqAt.tuple_list p1 p2.isList hu'
        | dk _ _ => simp only [plainT] at pu; cases pu
        | dt _ _ => simp only [plainT] at pu; cases pu
        | df _ _ _ => simp only [plainT] at pu; cases pu
        | ins _ _ _ => simp only [plainT] at pu; cases pu
        | pin _ _ => simp only [plainT] at pu; cases pu
        | ob _ => simp only [plainT] at pu; cases pu
        | ty _ => simp only [plainT] at pu; cases pu
        | non => simp only [At] at hw; subst hw; cases rw'; simp only [eqT]; exact SeqAt.EqAt.tuple_none p1 hu'
        | bl c => simp only [At] at hw; subst hw; cases rw'; simp only [eqT]; exact SeqAt.EqAt.tuple_bool c p1 hu'
        | int c => simp only [At] at hw; subst hw; obtain ⟨t, rfl⟩ := rw'; simp only [eqT]; exact SeqAt.EqAt.tuple_int c t p1 hu'
        | str c => simp only [At] at hw; subst hw; obtain ⟨t, rfl⟩ := rw'; simp only [eqT]; exact SeqAt.EqAt.tuple_str c t p1 hu'
      | lst l =>
        simp only [plainT] at pt
        simp only [dep] at hd
        have ht0 := ht
        simp only [At] at ht
        obtain ⟨p, vs, rfl, h1, h2⟩ := ht
        cases rv
        obtain ⟨its, r1, p1, _⟩ := I.list h1.sq
        cases u with
        | lst l' =>
          have hw0 := hw
          simp only [At] at hw
          obtain ⟨p', ws, rfl, g1, g2⟩ := hw
          cases rw'
          simp only [plainT] at pu
          by_cases e : p = p'
          · subst e
            have := At.inj I (t := .lst l) (u := .lst l') (by simp only [plainT]; exact pt) (by simp only [plainT]; exact pu) ht0 hw0
            rw [← this, eqT_refl _ (by simp only [plainT]; exact pt)]
            exact SeqAt.EqAt.same _
          · obtain ⟨its2, r2, p2, _⟩ := I.list g1.sq
            refine SeqAt.EqAt.of_refs e ?_
            have e1 := r1.length
            have e2 := r2.length
            have e3 := h2.length
            have e4 := g2.length
            by_cases hl : l.length = l'.length
            · have := SeqAt.RcAt.lists (A := A) p1.isList p2.isList (by simp only [List.size_toArray]; omega) hu' (items_eq I h2 g2 r1 r2 fun j x y v w u u' e1 e2 a1 a2 b1 b2 => ih x y v w u u' A.in1 (Nat.le_trans (deps_le e1) (by omega)) hu1 (plains_get pt e1) (plains_get pu e2) a1 a2 b1 b2)
              simp only [eqT]
              rw [eqTs_all hl]
              simp only [List.size_toArray] at this
              rw [← e1, e3] at this
              exact this
            · simp only [eqT]
              have : eqTs l l' = false := by
                cases q : eqTs l l' with
                | false => rfl
                | true => exact absurd (eqTs_len q) hl
              rw [this]
              exact SeqAt.RcAt.lists_lengths p1.isList p2.isList (by simp only [List.size_toArray]; rw [bne_iff_ne]; omega) hu'
        | tup l' => simp only [At] at hw; obtain ⟨p', ws, rfl, q, _⟩ := hw; cases rw'; obtain ⟨_, _, p2, _⟩ := I.tuple q; simp only [eqT]; exact SeqAt.EqAt.list_tuple p1.isList p2 hu'
        | dk _ _ => simp only [plainT] at pu; cases pu
        | dt _ _ => simp only [plainT] at pu; cases pu
        | df _ _ _ => simp only [plainT] at pu; cases pu
        | ins _ _ _ => simp only [plainT] at pu; cases pu
        | pin _ _ => simp only [plainT] at pu; cases pu
        | ob _ => simp only [plainT] at pu; cases pu
        | ty _ => simp only [plainT] at pu; cases pu
        | non => simp only [At] at hw; subst hw; cases rw'; simp only [eqT]; exact SeqAt.EqAt.list_none p1.isList hu'
        | bl c => simp only [At] at hw; subst hw; cases rw'; simp only [eqT]; exact SeqAt.EqAt.list_bool c p1.isList hu'
        | int c => simp only [At] at hw; subst hw; obtain ⟨t, rfl⟩ := rw'; simp only [eqT]; exact SeqAt.EqAt.list_int c t p1.isList hu'
        | str c => simp only [At] at hw; subst hw; obtain ⟨t, rfl⟩ := rw'; simp only [eqT]; exact SeqAt.EqAt.list_str c t p1.isList hu'
      | _ => exact absurd (Nat.zero_le n) h0
end
end VT
set_option Elab.async false
set_option linter.all false
set_option maxRecDepth 100000
set_option maxHeartbeats 4000000
namespace VT
open PySem PySem.Spec PyProof.Rows L2
section
variable {X : Cx} {pins : List (Addr × Obj)} {σ : St} {H : Hp} {s : Shared} {O O' : List Addr}
theorem rcAt_T (I : Inv X pins σ H s) (t u : T) (v w : V) (a b : Value) (A : Around) (hd : dep t ≤ 100) (hu : A.units + 101 < cLine) (pt : plainT t = true) (pu : plainT u = true) (ht : At X.K H O t v) (hw : At X.K H O' u w) (rv : RelV v a) (rw' : RelV w b) : SeqAt.RcAt A s a b (eqT t u) := by
  have hu' : A.units < cLine := by omega
  have hu1 : A.in1.units + 100 < cLine := by rw [in1_units]; omega
  cases t with
  | dk _ _ => simp only [plainT] at pt; cases pt
  | dt _ _ => simp only [plainT] at pt; cases pt
  | df _ _ _ => simp only [plainT] at pt; cases pt
  | ins _ _ _ => simp only [plainT] at pt; cases pt
  | pin _ _ => simp only [plainT] at pt; cases pt
  | ob _ => simp only [plainT] at pt; cases pt
  | ty _ => simp only [plainT] at pt; cases pt
  | non =>
    simp only [At] at ht; subst ht; cases rv
    cases u with
    | dk _ _ => simp only [plainT] at pu; cases pu
    | dt _ _ => simp only [plainT] at pu; cases pu
    | df _ _ _ => simp only [plainT] at pu; cases pu
    | ins _ _ _ => simp only [plainT] at pu; cases pu
    | pin _ _ => simp only [plainT] at pu; cases pu
    | ob _ => simp only [plainT] at pu; cases pu
    | ty _ => simp only [plainT] at pu; cases pu
    | non =>
      simp only [At] at hw; subst hw; cases rw'
      simp only [eqT]
      exact SeqAt.RcAt.none_none
    | bl c =>
      simp only [At] at hw; subst hw; cases rw'
      simp only [eqT]
      exact SeqAt.RcAt.none_bool c
    | int c =>
      simp only [At] at hw; subst hw; obtain ⟨t2, rfl⟩ := rw'
      simp only [eqT]
      exact SeqAt.RcAt.none_int c t2
    | str c =>
      simp only [At] at hw; subst hw; obtain ⟨t2, rfl⟩ := rw'
      simp only [eqT]
      exact SeqAt.RcAt.none_str c t2
    | tup l => simp only [At] at hw; obtain ⟨p, ws, rfl, q, _⟩ := hw; cases rw'; obtain ⟨_, _, p1, _⟩ := I.tuple q; simp only [eqT]; exact SeqAt.RcAt.none_tuple p1 hu'
    | lst l => simp only [At] at hw; obtain ⟨p, ws, rfl, q, _⟩ := hw; cases rw'; obtain ⟨_, _, p1, _⟩ := I.list q.sq; simp only [eqT]; exact SeqAt.RcAt.none_list p1.isList hu'
  | bl d =>
    simp only [At] at ht; subst ht; cases rv
    cases u with
    | dk _ _ => simp only [plainT] at pu; cases pu
    | dt _ _ => simp only [plainT] at pu; cases pu
    | df _ _ _ => simp only [plainT] at pu; cases pu
    | ins _ _ _ => simp only [plainT] at pu; cases pu
    | pin _ _ => simp only [plainT] at pu; cases pu
    | ob _ => simp only [plainT] at pu; cases pu
    | ty _ => simp only [plainT] at pu; cases pu
    | non =>
      simp only [At] at hw; subst hw; cases rw'
      simp only [eqT]
      exact SeqAt.RcAt.bool_none d
    | bl c =>
      simp only [At] at hw; subst hw; cases rw'
      simp only [eqT]
      exact SeqAt.RcAt.bool_bool d c
    | int c =>
      simp only [At] at hw; subst hw; obtain ⟨t2, rfl⟩ := rw'
      simp only [eqT]
      exact SeqAt.RcAt.bool_int d c t2
    | str c =>
      simp only [At] at hw; subst hw; obtain ⟨t2, rfl⟩ := rw'
      simp only [eqT]
      exact SeqAt.RcAt.bool_str d c t2
    | tup l => simp only [At] at hw; obtain ⟨p, ws, rfl, q, _⟩ := hw; cases rw'; obtain ⟨_, _, p1, _⟩ := I.tuple q; simp only [eqT]; exact SeqAt.RcAt.bool_tuple d p1 hu'
    | lst l => simp only [At] at hw; obtain ⟨p, ws, rfl, q, _⟩ := hw; cases rw'; obtain ⟨_, _, p1, _⟩ := I.list q.sq; simp only [eqT]; exact SeqAt.RcAt.bool_list d p1.isList hu'
  | int d =>
    simp only [At] at ht; subst ht; obtain ⟨t1, rfl⟩ := rv
    cases u with
    | dk _ _ => simp only [plainT] at pu; cases pu
    | dt _ _ => simp only [plainT] at pu; cases pu
    | df _ _ _ => simp only [plainT] at pu; cases pu
    | ins _ _ _ => simp only [plainT] at pu; cases pu
    | pin _ _ => simp only [plainT] at pu; cases pu
    | ob _ => simp only [plainT] at pu; cases pu
    | ty _ => simp only [plainT] at pu; cases pu
    | non =>
      simp only [At] at hw; subst hw; cases rw'
      simp only [eqT]
      exact SeqAt.RcAt.int_none d t1
    | bl c =>
      simp only [At] at hw; subst hw; cases rw'
      simp only [eqT]
      exact SeqAt.RcAt.int_bool d t1 c
    | int c =>
      simp only [At] at hw; subst hw; obtain ⟨t2, rfl⟩ := rw'
      simp only [eqT]
      exact SeqAt.RcAt.int_int d t1 c t2
    | str c =>
      simp only [At] at hw; subst hw; obtain ⟨t2, rfl⟩ := rw'
      simp only [eqT]
      exact SeqAt.RcAt.int_str d t1 c t2
    | tup l => simp only [At] at hw; obtain ⟨p, ws, rfl, q, _⟩ := hw; cases rw'; obtain ⟨_, _, p1, _⟩ := I.tuple q; simp only [eqT]; exact SeqAt.RcAt.int_tuple d t1 p1 hu'
    | lst l => simp only [At] at hw; obtain ⟨p, ws, rfl, q, _⟩ := hw; cases rw'; obtain ⟨_, _, p1, _⟩ := I.list q.sq; simp only [eqT]; exact SeqAt.RcAt.int_list d t1 p1.isList hu'
  | str d =>
    simp only [At] at ht; subst ht; obtain ⟨t1, rfl⟩ := rv
    cases u with
    | dk _ _ => simp only [plainT] at pu; cases pu
    | dt _ _ => simp only [plainT] at pu; cases pu
    | df _ _ _ => simp only [plainT] at pu; cases pu
    | ins _ _ _ => simp only [plainT] at pu; cases pu
    | pin _ _ => simp only [plainT] at pu; cases pu
    | ob _ => simp only [plainT] at pu; cases pu
    | ty _ => simp only [plainT] at pu; cases pu
    | non =>
      simp only [At] at hw; subst hw; cases rw'
      simp only [eqT]
      exact SeqAt.RcAt.str_none d t1
    | bl c =>
      simp only [At] at hw; subst hw; cases rw'
      simp only [eqT]
      exact SeqAt.RcAt.str_bool d t1 c
    | int c =>
      simp only [At] at hw; subst hw; obtain ⟨t2, rfl⟩ := rw'
      simp only [eqT]
      exact SeqAt.RcAt.str_int d t1 c t2
    | str c =>
      simp only [At] at hw; subst hw; obtain ⟨t2, rfl⟩ := rw'
      simp only [eqT]
      exact SeqAt.RcAt.str_str d t1 c t2
    | tup l => simp only [At] at hw; obtain ⟨p, ws, rfl, q, _⟩ := hw; cases rw'; obtain ⟨_, _, p1, _⟩ := I.tuple q; simp only [eqT]; exact SeqAt.RcAt.str_tuple d t1 p1 hu'
    | lst l => simp only [At] at hw; obtain ⟨p, ws, rfl, q, _⟩ := hw; cases rw'; obtain ⟨_, _, p1, _⟩ := I.list q.sq; simp only [eqT]; exact SeqAt.RcAt.str_list d t1 p1.isList hu'
  | tup l =>
    simp only [plainT] at pt
    simp only [dep] at hd
    simp only [At] at ht
    obtain ⟨p, vs, rfl, h1, h2⟩ := ht
    cases rv
    obtain ⟨its, r1, p1, _⟩ := I.tuple h1
    cases u with
    | dk _ _ => simp only [plainT] at pu; cases pu
    | dt _ _ => simp only [plainT] at pu; cases pu
    | df _ _ _ => simp only [plainT] at pu; cases pu
    | ins _ _ _ => simp only [plainT] at pu; cases pu
    | pin _ _ => simp only [plainT] at pu; cases pu
    | ob _ => simp only [plainT] at pu; cases pu
    | ty _ => simp only [plainT] at pu; cases pu
    | non =>
      simp only [At] at hw; subst hw; cases rw'
      simp only [eqT]
      exact SeqAt.RcAt.tuple_none p1 hu'
    | bl c =>
      simp only [At] at hw; subst hw; cases rw'
      simp only [eqT]
      exact SeqAt.RcAt.tuple_bool c p1 hu'
    | int c =>
      simp only [At] at hw; subst hw; obtain ⟨t2, rfl⟩ := rw'
      simp only [eqT]
      exact SeqAt.RcAt.tuple_int c t2 p1 hu'
    | str c =>
      simp only [At] at hw; subst hw; obtain ⟨t2, rfl⟩ := rw'
      simp only [eqT]
      exact SeqAt.RcAt.tuple_str c t2 p1 hu'
    | tup l' =>
      simp only [At] at hw
      obtain ⟨p', ws, rfl, g1, g2⟩ := hw
      cases rw'
      obtain ⟨its2, r2, p2, _⟩ := I.tuple g1
      simp only [eqT]
      simp only [plainT] at pu
      have e1 := r1.length
      have e2 := r2.length
      have e3 := h2.length
      have e4 := g2.length
      have := SeqAt.RcAt.tuples (A := A) p1 p2 hu' (items_eq I h2 g2 r1 r2 fun j x y v w u u' e1 e2 a1 a2 b1 b2 => eqAt_T I 100 x y v w u u' A.in1 (Nat.le_trans (deps_le e1) (by omega)) hu1 (plains_get pt e1) (plains_get pu e2) a1 a2 b1 b2)
      simp only [List.size_toArray] at this
      rw [← e1, ← e2, e3, e4] at this
      rw [eqTs_min]
      exact this
    | lst l' =>
      simp only [At] at hw
      obtain ⟨p', ws, rfl, g1, g2⟩ := hw
      cases rw'
      obtain ⟨its2, r2, p2, _⟩ := I.list g1.sq
      simp only [eqT]
      exact SeqAt.RcAt.tuple_list p1 p2.isList hu'
  | lst l =>
    simp only [plainT] at pt
    simp only [dep] at hd
    simp only [At] at ht
    obtain ⟨p, vs, rfl, h1, h2⟩ := ht
    cases rv
    obtain ⟨its, r1, p1, _⟩ := I.list h1.sq
    cases u with
    | dk _ _ => simp only [plainT] at pu; cases pu
    | dt _ _ => simp only [plainT] at pu; cases pu
    | df _ _ _ => simp only [plainT] at pu; cases pu
    | ins _ _ _ => simp only [plainT] at pu; cases pu
    | pin _ _ => simp only [plainT] at pu; cases pu
    | ob _ => simp only [plainT] at pu; cases pu
    | ty _ => simp only [plainT] at pu; cases pu
    | non =>
      simp only [At] at hw; subst hw; cases rw'
      simp only [eqT]
      exact SeqAt.RcAt.list_none p1.isList hu'
    | bl c =>
      simp only [At] at hw; subst hw; cases rw'
      simp only [eqT]
      exact SeqAt.RcAt.list_bool c p1.isList hu'
    | int c =>
      simp only [At] at hw; subst hw; obtain ⟨t2, rfl⟩ := rw'
      simp only [eqT]
      exact SeqAt.RcAt.list_int c t2 p1.isList hu'
    | str c =>
      simp only [At] at hw; subst hw; obtain ⟨t2, rfl⟩ := rw'
      simp only [eqT]
      exact SeqAt.RcAt.list_str c t2 p1.isList hu'
    | tup l' =>
      simp only [At] at hw
      obtain ⟨p', ws, rfl, g1, g2⟩ := hw
      cases rw'
      obtain ⟨its2, r2, p2, _⟩ := I.tuple g1
      simp only [eqT]
      exact SeqAt.RcAt.list_tuple p1.isList p2 hu'
    | lst l' =>
      simp only [At] at hw
      obtain ⟨p', ws, rfl, g1, g2⟩ := hw
      cases rw'
      obtain ⟨its2, r2, p2, _⟩ := I.list g1.sq
      simp only [eqT]
      simp only [plainT] at pu
      have e1 := r1.length
      have e2 := r2.length
      have e3 := h2.length
      have e4 := g2.length
      by_cases hl : l.length = l'.length
      · have := SeqAt.RcAt.lists (A := A) p1.isList p2.isList (by simp only [List.size_toArray]; omega) hu' (items_eq I h2 g2 r1 r2 fun j x y v w u u' e1 e2 a1 a2 b1 b2 => eqAt_T I 100 x y v w u u' A.in1 (Nat.le_trans (deps_le e1) (by omega)) hu1 (plains_get pt e1) (plains_get pu e2) a1 a2 b1 b2)
        simp only [List.size_toArray] at this
        rw [← e1, e3] at this
        rw [eqTs_all hl]
        exact this
      · have : eqTs l l' = false := by
          cases q : eqTs l l' with
          | false => rfl
          | true => exact absurd (eqTs_len q) hl
        rw [this]
        exact SeqAt.RcAt.lists_lengths p1.isList p2.isList (by simp only [List.size_toArray]; rw [bne_iff_ne]; omega) hu'
theorem AtR.bare {K : PySem.W.Frag} {H : Hp} {A : List Addr} {t : T} {v : V} (h : AtR K H A t v) : At K H [] t v := by
  rcases h with h | ⟨a, rfl, h⟩
  · exact At.fewer (O' := []) (fun _ z => absurd z List.not_mem_nil) h
  · exact (Root.fewer (A' := []) h (fun _ z => absurd z List.not_mem_nil)).at List.not_mem_nil
def rEqT (K : PySem.W.Frag) (neg : Bool) : R2 := fun x y H Q => ∃ t u, At K H [] t x ∧ At K H [] u y ∧ plainT t = true ∧ plainT u = true ∧ dep t ≤ 100 ∧ Q (.bl (if neg then !eqT t u else eqT t u)) H
theorem op_eqT (hu : X.A.units + 101 < cLine) : OpR X (compareOp .Eq) (rEqT X.K false) := by
  intro pins s σ H x y v u Q I rx ry ⟨t, t', h1, h2, p1, p2, d, q⟩
  exact rcAt_T I t t' x y v u X.A d hu p1 p2 h1 h2 rx ry X.prog X.w X.xe _ ⟨.bl _, H, I, rfl, q⟩
end
def pEq (x y : T) (q : Rt → Prop) : Prop := match x, y with
  | .int i, .int j => q (.vw (.bl (decide (i = j))))
  | .str i, .str j => q (.vw (.bl (decide (i = j))))
  | .bl i, .bl j => q (.vw (.bl (decide (i = j))))
  | x, y => plainT x = true ∧ plainT y = true ∧ dep x ≤ 100 ∧ q (.vw (.bl (eqT x y)))
theorem pEq_gen {x y : T} {q : Rt → Prop} (h : pEq x y q) : plainT x = true ∧ plainT y = true ∧ dep x ≤ 100 ∧ q (.vw (.bl (eqT x y))) := by
  unfold pEq at h
  split at h
  · exact ⟨rfl, rfl, Nat.zero_le _, by simp only [eqT, Bool.beq_eq_decide_eq]; exact h⟩
  · refine ⟨rfl, rfl, Nat.zero_le _, ?_⟩
    have e : ∀ i j : Str, (i == j) = decide (i = j) := fun i j => by rw [Bool.eq_iff_iff]; simp
    simp only [eqT, e]; exact h
  · exact ⟨rfl, rfl, Nat.zero_le _, by simp only [eqT, Bool.beq_eq_decide_eq]; exact h⟩
  · exact h
theorem opT_eq {K : PySem.W.Frag} : OpT K (rEqT K false) pEq := by
  intro Z tm O ρ σ H x y v w q Q I h1 h2 h k
  obtain ⟨p1, p2, d, h⟩ := pEq_gen h
  exact ⟨x, y, h1.bare, h2.bare, p1, p2, d, k _ h _ H (Same.refl H) ⟨I, by rw [if_neg Bool.false_ne_true]; exact at_bl⟩⟩
end VT
set_option Elab.async false
set_option linter.all false
set_option maxRecDepth 100000
set_option maxHeartbeats 4000000
namespace VT
open PySem PySem.Spec PyProof.Rows L2
section
variable {K : PySem.W.Frag}
end
def pSub (x y : T) (q : Rt → Prop) : Prop := match x, y with
  | .int i, .int j => q (.vw (.int (i - j)))
  | _, _ => False
theorem opT_Sub {K : PySem.W.Frag} : OpT K (rI0 fun i j => .int (i - j)) pSub := by
  intro Z tm O ρ σ H x y v w q Q I h1 h2 h k
  unfold pSub at h
  split at h
  · exact ⟨_, _, h1.int, h2.int, k _ h _ H (Same.refl H) ⟨I, at_int⟩⟩
  · exact h.elim
def pMul (x y : T) (q : Rt → Prop) : Prop := match x, y with
  | .int i, .int j => CMul i j ∧ q (.vw (.int (i * j)))
  | _, _ => False
theorem opT_Mul {K : PySem.W.Frag} : OpT K (rI CMul fun i j => .int (i * j)) pMul := by
  intro Z tm O ρ σ H x y v w q Q I h1 h2 h k
  unfold pMul at h
  split at h
  · exact ⟨_, _, h1.int, h2.int, h.1, k _ h.2 _ H (Same.refl H) ⟨I, at_int⟩⟩
  · exact h.elim
def pDiv (x y : T) (q : Rt → Prop) : Prop := match x, y with
  | .int i, .int j => (0 < j ∧ j < 1073741824) ∧ q (.vw (.int (i / j)))
  | _, _ => False
theorem opT_Div {K : PySem.W.Frag} : OpT K (rI CDiv fun i j => .int (i / j)) pDiv := by
  intro Z tm O ρ σ H x y v w q Q I h1 h2 h k
  unfold pDiv at h
  split at h
  · exact ⟨_, _, h1.int, h2.int, h.1, k _ h.2 _ H (Same.refl H) ⟨I, at_int⟩⟩
  · exact h.elim
def pMod (x y : T) (q : Rt → Prop) : Prop := match x, y with
  | .int i, .int j => 0 < j ∧ q (.vw (.int (i % j)))
  | _, _ => False
theorem opT_Mod {K : PySem.W.Frag} : OpT K (rI (fun _ j => 0 < j) fun i j => .int (i % j)) pMod := by
  intro Z tm O ρ σ H x y v w q Q I h1 h2 h k
  unfold pMod at h
  split at h
  · exact ⟨_, _, h1.int, h2.int, h.1, k _ h.2 _ H (Same.refl H) ⟨I, at_int⟩⟩
  · exact h.elim
def pPow (x y : T) (q : Rt → Prop) : Prop := match x, y with
  | .int i, .int j => (0 ≤ j ∧ j ≤ 1000000 ∧ i.natAbs < 2 ^ 64) ∧ q (.vw (.int (i ^ j.toNat)))
  | _, _ => False
theorem opT_Pow {K : PySem.W.Frag} : OpT K (rI CPow fun i j => .int (i ^ j.toNat)) pPow := by
  intro Z tm O ρ σ H x y v w q Q I h1 h2 h k
  unfold pPow at h
  split at h
  · exact ⟨_, _, h1.int, h2.int, h.1, k _ h.2 _ H (Same.refl H) ⟨I, at_int⟩⟩
  · exact h.elim
def pShl (x y : T) (q : Rt → Prop) : Prop := match x, y with
  | .int i, .int j => (0 ≤ j ∧ j ≤ 1000000 ∧ i.natAbs < 2 ^ 64) ∧ q (.vw (.int (i * 2 ^ j.toNat)))
  | _, _ => False
theorem opT_Shl {K : PySem.W.Frag} : OpT K (rI CPow fun i j => .int (i * 2 ^ j.toNat)) pShl := by
  intro Z tm O ρ σ H x y v w q Q I h1 h2 h k
  unfold pShl at h
  split at h
  · exact ⟨_, _, h1.int, h2.int, h.1, k _ h.2 _ H (Same.refl H) ⟨I, at_int⟩⟩
  · exact h.elim
def pShr (x y : T) (q : Rt → Prop) : Prop := match x, y with
  | .int i, .int j => 0 ≤ j ∧ q (.vw (.int (i / 2 ^ j.toNat)))
  | _, _ => False
theorem opT_Shr {K : PySem.W.Frag} : OpT K (rI (fun _ j => 0 ≤ j) fun i j => .int (i / 2 ^ j.toNat)) pShr := by
  intro Z tm O ρ σ H x y v w q Q I h1 h2 h k
  unfold pShr at h
  split at h
  · exact ⟨_, _, h1.int, h2.int, h.1, k _ h.2 _ H (Same.refl H) ⟨I, at_int⟩⟩
  · exact h.elim
def pBand (x y : T) (q : Rt → Prop) : Prop := match x, y with
  | .int i, .int j => q (.vw (.int (Builtin.bitAnd i j)))
  | _, _ => False
theorem opT_Band {K : PySem.W.Frag} : OpT K (rI0 fun i j => .int (Builtin.bitAnd i j)) pBand := by
  intro Z tm O ρ σ H x y v w q Q I h1 h2 h k
  unfold pBand at h
  split at h
  · exact ⟨_, _, h1.int, h2.int, k _ h _ H (Same.refl H) ⟨I, at_int⟩⟩
  · exact h.elim
def pBor (x y : T) (q : Rt → Prop) : Prop := match x, y with
  | .int i, .int j => q (.vw (.int (Builtin.bitOr i j)))
  | _, _ => False
theorem opT_Bor {K : PySem.W.Frag} : OpT K (rI0 fun i j => .int (Builtin.bitOr i j)) pBor := by
  intro Z tm O ρ σ H x y v w q Q I h1 h2 h k
  unfold pBor at h
  split at h
  · exact ⟨_, _, h1.int, h2.int, k _ h _ H (Same.refl H) ⟨I, at_int⟩⟩
  · exact h.elim
def pLt (x y : T) (q : Rt → Prop) : Prop := match x, y with
  | .int i, .int j => q (.vw (.bl (decide (i < j))))
  | _, _ => False
theorem opT_Lt {K : PySem.W.Frag} : OpT K (rI0 fun i j => .bl (decide (i < j))) pLt := by
  intro Z tm O ρ σ H x y v w q Q I h1 h2 h k
  unfold pLt at h
  split at h
  · exact ⟨_, _, h1.int, h2.int, k _ h _ H (Same.refl H) ⟨I, at_bl⟩⟩
  · exact h.elim
def pAddI (x y : T) (q : Rt → Prop) : Prop := match x, y with
  | .int i, .int j => q (.vw (.int (i + j)))
  | _, _ => False
theorem opT_AddI {K : PySem.W.Frag} : OpT K (rI0 fun i j => .int (i + j)) pAddI := by
  intro Z tm O ρ σ H x y v w q Q I h1 h2 h k
  unfold pAddI at h
  split at h
  · exact ⟨_, _, h1.int, h2.int, k _ h _ H (Same.refl H) ⟨I, at_int⟩⟩
  · exact h.elim
def rCatL (K : PySem.W.Frag) : R2 := fun x y H Q => ∃ l b xs zs, x = .ref l ∧ y = .ref b ∧ SqL K H l xs ∧ SqL K H b zs ∧ xs.length + zs.length ≤ sizeLine ∧ ∀ p, H p = none → Q (.ref p) (upd H p (.lst (xs ++ zs)))
def rCatU (K : PySem.W.Frag) : R2 := fun x y H Q => ∃ a b xs ys, x = .ref a ∧ y = .ref b ∧ SqT K H a xs ∧ SqT K H b ys ∧ xs.length + ys.length ≤ sizeLine ∧ (xs = [] → Q (.ref b) H) ∧ (xs ≠ [] → ys = [] → Q (.ref a) H) ∧ (xs ≠ [] → ys ≠ [] → ∀ p, H p = none → Q (.ref p) (upd H p (.tup (xs ++ ys))))
section
variable {X : Cx}
theorem op_catL : OpR X (binaryOp .Add) (rCatL X.K) := by
  intro pins s σ H x y v u Q I rx ry h
  obtain ⟨l, b, xs, zs, rfl, rfl, hH, hB, hz, q⟩ := h
  cases rx
  cases ry
  obtain ⟨its, r, p1, z1⟩ := I.list hH
  obtain ⟨its2, r2, p2, z2⟩ := I.list hB
  obtain ⟨⟨cls, dd, data, sl⟩, n, ho, hc, _, hd⟩ := p1
  obtain ⟨⟨cls2, dd2, data2, sl2⟩, n2, ho2, hc2, _, hd2⟩ := p2
  simp only at hc hd hc2 hd2
  subst hc hd hc2 hd2
  have l1 := r.length
  have l2 := r2.length
  have e : its.toArray ++ its2.toArray = (its ++ its2).toArray := by simp
  refine concat_meets ⟨_, ho, rfl⟩ ⟨_, ho2, rfl⟩ noFill_list_add seq_list_add PySem.F.slot_list_add PySem.F.entry_list_add (PySem.F.args_list_add_2 _ _) (list_addW l b its.toArray its2.toArray n n2 dd dd2 sl sl2 (by simp only [List.size_toArray]; omega)) ⟨ho, ho2, ?_⟩
  rw [e]
  exact ⟨.ref _, _, I.lnew (t' := s.toks) (r.append r2) (by rw [List.length_append]; omega), rfl, q _ I.fresh⟩
theorem op_catU : OpR X (binaryOp .Add) (rCatU X.K) := by
  intro pins s σ H x y v u Q I rx ry h
  obtain ⟨a, b, xs, ys, rfl, rfl, ha, hb, hz, q0, q1, q2⟩ := h
  cases rx
  cases ry
  obtain ⟨its, r1, p1, _⟩ := I.tuple ha
  obtain ⟨its2, r2, p2, _⟩ := I.tuple hb
  by_cases hx : xs = []
  · obtain ⟨⟨cls, dd, data, sl⟩, ho, hc, n, hd⟩ := id p1
    obtain ⟨⟨cls2, dd2, data2, sl2⟩, ho2, hc2, n2, hd2⟩ := id p2
    simp only at hc hd hc2 hd2
    subst hc hd hc2 hd2
    exact concat_meets ⟨_, ho, rfl⟩ ⟨_, ho2, rfl⟩ noFill_tuple_add seq_tuple_add PySem.F.slot_tuple_add PySem.F.entry_tuple_add (PySem.F.args_tuple_add_2 _ _)
      (tuple_addW0 a b its.toArray its2.toArray n n2 dd dd2 sl sl2 (by simp [r1.nil_iff.mpr hx])) ⟨ho, ho2, ⟨.ref b, H, I, rfl, q0 hx⟩⟩
  · refine HT.cat_tup p1 p2 (fun z => hx (r1.nil_iff.mp z)) (fun z => ⟨.ref a, H, I, rfl, q1 hx (r2.nil_iff.mp z)⟩) (fun z => ?_) (by rw [← r1.length, ← r2.length]; exact hz)
    refine ⟨.ref s.heap.objs.size, _, I.laid (t' := s.toks) (o := .tup (xs ++ ys)) (fun b ob q => Heap.get?_push_of_some _ q) (Nat.le_refl _) ?_, rfl, q2 hx (fun w => z (r2.nil_iff.mpr w)) _ (I.hok.fresh (Nat.le_refl _))⟩
    exact ⟨by rw [List.length_append]; exact hz, _, r1.append r2, IsTup.new _ _⟩
end
def rAddU (K : PySem.W.Frag) : R2 := fun x y H Q => rI0 (fun i j => .int (i + j)) x y H Q ∨ (fun x y H Q => ∃ i j, x = .str i ∧ y = .str j ∧ i.length + j.length ≤ sizeLine ∧ Q (.str (i ++ j)) H) x y H Q ∨ rCatL K x y H Q ∨ rCatU K x y H Q
theorem op_addU {X : Cx} : OpR X (binaryOp .Add) (rAddU X.K) := OpR.or op_add (OpR.or op_add_str (OpR.or op_catL op_catU))
def pAdd (x y : T) (q : Rt → Prop) : Prop := match x, y with
  | .int i, .int j => q (.vw (.int (i + j)))
  | .str i, .str j => i.length + j.length ≤ sizeLine ∧ q (.vw (.str (i ++ j)))
  | .lst a, .lst b => a.length + b.length ≤ sizeLine ∧ q (.fr (.lst (a ++ b)))
  | .tup a, .tup b => a.length + b.length ≤ sizeLine ∧ q (.vw (.tup (a ++ b)))
  | _, _ => False
theorem opT_add {K : PySem.W.Frag} : OpT K (rAddU K) pAdd := by
  intro Z tm O ρ σ H x y v w q Q I h1 h2 h k
  unfold pAdd at h
  split at h
  · exact .inl ⟨_, _, h1.int, h2.int, k _ h _ H (Same.refl H) ⟨I, at_int⟩⟩
  · exact .inr (.inl ⟨_, _, h1.str, h2.str, h.1, k _ h.2 _ H (Same.refl H) ⟨I, at_str⟩⟩)
  · obtain ⟨a, vs, rfl, s1, a1⟩ := h1.lst
    obtain ⟨b, ws, rfl, s2, a2⟩ := h2.lst
    exact .inr (.inr (.inl ⟨a, b, vs, ws, rfl, rfl, s1, s2, by rw [a1.length, a2.length]; exact h.1, fun p hp => k _ h.2 _ _ (same_upd hp) (I.newL hp (a1.append a2))⟩))
  · obtain ⟨a, vs, rfl, s1, a1⟩ := h1.tup
    obtain ⟨b, ws, rfl, s2, a2⟩ := h2.tup
    refine .inr (.inr (.inr ⟨a, b, vs, ws, rfl, rfl, s1, s2, by rw [a1.length, a2.length]; exact h.1, fun e => ?_, fun _ e => ?_, fun _ _ p hp => ?_⟩))
    · subst e
      have e := a1.length
      rename_i xs ys
      have e' : xs = [] := List.length_eq_zero_iff.mp e.symm
      subst e'
      exact k _ h.2 _ H (Same.refl H) ⟨I, at_tup s2 a2⟩
    · subst e
      have e := a2.length
      rename_i xs ys _
      have e' : ys = [] := List.length_eq_zero_iff.mp e.symm
      subst e'
      exact k _ h.2 _ H (Same.refl H) ⟨I, by rw [List.append_nil]; exact at_tup s1 a1⟩
    · exact k _ h.2 _ _ (same_upd hp) ⟨I.same (same_upd hp), at_tup (SqT.of upd_same) ((a1.append a2).same (same_upd hp))⟩
  · exact h.elim
section
variable {X : Cx} {Z : Zc} {e a b : Expr} {es : List Expr} {pos : Pos} {fa fb : FE}
theorem vp_add (ha : VR X Z a fa) (hb : VR X Z b fb) : VP X Z (.BinOp a .Add b pos) (f2 fa fb pAdd) := vp_bin op_addU opT_add ha hb
theorem vp_sub (ha : VR X Z a fa) (hb : VR X Z b fb) : VP X Z (.BinOp a .Sub b pos) (f2 fa fb pSub) := vp_bin op_sub opT_Sub ha hb
theorem vp_mul (ha : VR X Z a fa) (hb : VR X Z b fb) : VP X Z (.BinOp a .Mult b pos) (f2 fa fb pMul) := vp_bin op_mul opT_Mul ha hb
theorem vp_fdiv (ha : VR X Z a fa) (hb : VR X Z b fb) : VP X Z (.BinOp a .FloorDiv b pos) (f2 fa fb pDiv) := vp_bin op_fdiv opT_Div ha hb
theorem vp_mod (ha : VR X Z a fa) (hb : VR X Z b fb) : VP X Z (.BinOp a .Mod b pos) (f2 fa fb pMod) := vp_bin op_mod opT_Mod ha hb
theorem vp_pow (ha : VR X Z a fa) (hb : VR X Z b fb) : VP X Z (.BinOp a .Pow b pos) (f2 fa fb pPow) := vp_bin op_pow opT_Pow ha hb
theorem vp_shl (ha : VR X Z a fa) (hb : VR X Z b fb) : VP X Z (.BinOp a .LShift b pos) (f2 fa fb pShl) := vp_bin op_shl opT_Shl ha hb
theorem vp_shr (ha : VR X Z a fa) (hb : VR X Z b fb) : VP X Z (.BinOp a .RShift b pos) (f2 fa fb pShr) := vp_bin op_shr opT_Shr ha hb
theorem vp_band (ha : VR X Z a fa) (hb : VR X Z b fb) : VP X Z (.BinOp a .BitAnd b pos) (f2 fa fb pBand) := vp_bin op_and opT_Band ha hb
theorem vp_bor (ha : VR X Z a fa) (hb : VR X Z b fb) : VP X Z (.BinOp a .BitOr b pos) (f2 fa fb pBor) := vp_bin op_or opT_Bor ha hb
theorem vp_eq (hu : X.A.units + 101 < cLine) (ha : VR X Z a fa) (hb : VR X Z b fb) : VP X Z (.Compare a [.Eq] [b] pos) (f2 fa fb pEq) := vp_cmp (op_eqT hu) opT_eq ha hb (nomark _)
theorem vc_eq (hu : X.A.units + 101 < cLine) (ha : VR X Z a fa) (hb : VR X Z b fb) : VC X Z (.Compare a [.Eq] [b] pos) (fTst (f2 fa fb pEq)) := vc_cmp (op_eqT hu) opT_eq ha hb (nomark _)
theorem vc_lt (ha : VR X Z a fa) (hb : VR X Z b fb) : VC X Z (.Compare a [.Lt] [b] pos) (fTst (f2 fa fb pLt)) := vc_cmp op_lt opT_Lt ha hb (nomark _)
def f3 (fa fb fc : FE) (p p' : T → T → (Rt → Prop) → Prop) : FP := fun ρ Q => fa ρ fun x => fb ρ fun y => p x y fun r => match r with
  | .vw (.bl true) => fc ρ fun z => p' y z Q
  | .vw (.bl false) => Q (.vw (.bl false))
  | _ => False
end
theorem atI_at {K : PySem.W.Frag} {H : Hp} {A : List Addr} {ts : List T} {vs : List V} {i : Int} {t : T} (h : AtL K H A ts vs) (e : atI ts i = some t) : ∃ v, atI vs i = some v ∧ At K H A t v := by
  unfold atI at e ⊢
  rw [h.length]
  cases q : ixN ts.length i with
  | none => rw [q] at e; cases e
  | some j =>
    rw [q] at e
    obtain ⟨v, h1, h2⟩ := h.get (i := j) e
    exact ⟨v, h1, h2⟩
def pIx (x y : T) (q : Rt → Prop) : Prop := match x, y with
  | .lst ts, .int i => ∃ t, atI ts i = some t ∧ q (.vw t)
  | .tup ts, .int i => ∃ t, atI ts i = some t ∧ q (.vw t)
  | .str z, .int i => z.length ≤ sizeLine ∧ ∃ c, atI z.cps.toList i = some c ∧ q (.vw (.str ⟨#[c]⟩))
  | _, _ => False
theorem opT_ix {K : PySem.W.Frag} : OpT K (rIx K) pIx := by
  intro Z tm O ρ σ H x y v w q Q I h1 h2 h k
  unfold pIx at h
  split at h
  · obtain ⟨t, e, h⟩ := h
    obtain ⟨a, vs, rfl, s1, a1⟩ := h1.lst
    obtain ⟨u, e', a2⟩ := atI_at a1 e
    exact .inl ⟨a, vs, _, u, rfl, h2.int, s1, e', k _ h _ H (Same.refl H) ⟨I, a2⟩⟩
  · obtain ⟨t, e, h⟩ := h
    obtain ⟨a, vs, rfl, s1, a1⟩ := h1.tup
    obtain ⟨u, e', a2⟩ := atI_at a1 e
    exact .inr (.inl ⟨a, vs, _, u, rfl, h2.int, s1, e', k _ h _ H (Same.refl H) ⟨I, a2⟩⟩)
  · obtain ⟨hz, c, e, h⟩ := h
    exact .inr (.inr ⟨_, _, c, h1.str, h2.int, hz, e, k _ h _ H (Same.refl H) ⟨I, at_str⟩⟩)
  · exact h.elim
section
variable {X : Cx} {Z : Zc} {e a b : Expr} {es : List Expr} {pos : Pos} {fa fb : FE}
theorem vp_ix (ha : VR X Z a fa) (hb : VR X Z b fb) (hs : PlainIx b := by exact fun _ _ => rfl) : VP X Z (.Subscript a b pos) (f2 fa fb pIx) :=
  .mk fun tm => PE.weak (pe_ix ix_seq (ha tm) (hb tm) hs) (two opT_ix)
end
abbrev FO := En → (Option Int → Prop) → Prop
def lO (X : Cx) (Z : Zc) (tm : List (T × V)) (f : FO) : TO := fun σ H Q => ∃ ρ O q, EnvAt X.K Z tm O ρ σ H ∧ f ρ q ∧ ∀ o, q o → ∀ H', Same H H' → Q o H'
def VO (X : Cx) (Z : Zc) (e : Option Expr) (f : FO) : Prop := Bx fun tm => PO X e (lO X Z tm f)
instance {X : Cx} {Z : Zc} {e : Option Expr} {f : FO} : CoeFun (VO X Z e f) fun _ => ∀ tm, PO X e (lO X Z tm f) := ⟨fun h => Bx.h h⟩
theorem PO.weak {X : Cx} {e : Option Expr} {t t' : TO} (h : PO X e t) (hw : ∀ σ H Q, t' σ H Q → t σ H Q) : PO X e t' := fun pins s σ H Q I q => h pins s σ H Q I (hw _ _ _ q)
def fO0 : FO := fun _ Q => Q none
def fO1 (f : FE) : FO := fun ρ Q => f ρ fun t => match t with
  | .int i => Q (some i)
  | _ => False
def cutT {α : Type} (xs : List α) (lo hi : Option Int) : List α := (xs.drop (HT.sIx xs.length 0 lo)).take (HT.sIx xs.length xs.length hi - HT.sIx xs.length 0 lo)
theorem AtL.cut {K : PySem.W.Frag} {H : Hp} {A : List Addr} {ts : List T} {vs : List V} (h : AtL K H A ts vs) (lo hi : Option Int) : AtL K H A (cutT ts lo hi) (cutV vs lo hi) := by
  unfold cutT cutV
  rw [h.length]
  exact (h.drop _).take _
def rSlU (K : PySem.W.Frag) : V → Option Int → Option Int → Hp → VK → Prop := fun x lo hi H Q => rSlL K x lo hi H Q ∨ rSlT K x lo hi H Q ∨ rSlS x lo hi H Q
theorem sl_U {X : Cx} : SlR X (rSlU X.K) := SlR.or sl_list (SlR.or sl_tup sl_str)
def pSl (x : T) (lo hi : Option Int) (q : Rt → Prop) : Prop := match x with
  | .lst ts => q (.fr (.lst (cutT ts lo hi)))
  | .tup ts => ¬ (HT.sIx ts.length 0 lo = 0 ∧ HT.sIx ts.length ts.length hi = ts.length) ∧ q (.vw (.tup (cutT ts lo hi)))
  | .str z => z.length ≤ sizeLine ∧ q (.vw (.str (Txt.slice z lo hi)))
  | _ => False
def fSl (fa : FE) (fl fh : FO) : FP := fun ρ Q => fa ρ fun x => fl ρ fun lo => fh ρ fun hi => pSl x lo hi Q
section
variable {X : Cx} {Z : Zc} {e a b : Expr} {lo hi : Option Expr} {pos p2 : Pos} {fa : FE} {fl fh : FO}
theorem vo_none : VO X Z none fO0 := .mk fun tm => PO.weak po_none fun σ H Q ⟨ρ, O, q, I, hf, k⟩ => k _ hf H (Same.refl H)
theorem vo_some (h : VR X Z e fa) : VO X Z (some e) (fO1 fa) := .mk fun tm => PO.weak (po_some (h tm)) fun σ H Q ⟨ρ, O, q, I, hf, k⟩ => ⟨ρ, O, _, I, hf, fun t ht v H' s z => by
  split at ht
  · exact ⟨_, z.int, k _ ht H' s⟩
  · exact ht.elim⟩
theorem vp_slice (he : VR X Z e fa) (hl : VO X Z lo fl) (hh : VO X Z hi fh) : VP X Z (.Subscript e (.Slice lo hi none p2) pos) (fSl fa fl fh) :=
  .mk fun tm => PE.weak (pe_slice sl_U (he tm) (hl tm) (hh tm)) fun σ H Q ⟨ρ, O, q, I, hf, k⟩ => ⟨ρ, O, _, I, hf, fun x hx v H1 s1 a1 => ⟨ρ, O, _, I.same s1, hx, fun l hl H2 s2 => ⟨ρ, O, _, (I.same s1).same s2, hl, fun u hu H3 s3 => by
    have J := ((I.same s1).same s2).same s3
    have a3 := (a1.same s2).same s3
    have S := (s1.trans s2).trans s3
    unfold pSl at hu
    split at hu
    · obtain ⟨p, vs, rfl, q1, q2⟩ := a3.lst
      exact .inl ⟨p, vs, rfl, q1, fun r hr => k _ hu _ _ (S.trans (same_upd hr)) (J.newL hr (q2.cut _ _))⟩
    · obtain ⟨p, vs, rfl, q1, q2⟩ := a3.tup
      refine .inr (.inl ⟨p, vs, rfl, q1, by rw [q2.length]; exact hu.1, fun r hr => k _ hu.2 _ _ (S.trans (same_upd hr)) ⟨J.same (same_upd hr), at_tup (SqT.of upd_same) ((q2.cut _ _).same (same_upd hr))⟩⟩)
    · exact .inr (.inr ⟨_, a3.str, hu.1, k _ hu.2 _ H3 S ⟨J, at_str⟩⟩)
    · exact hu.elim⟩⟩⟩
end
def fCall (g : FA) (p : List T → (Rt → Prop) → Prop) : FP := fun ρ Q => g ρ fun ts => p ts Q
def CallT (K : PySem.W.Frag) (r : List V → Hp → VK → Prop) (p : List T → (Rt → Prop) → Prop) : Prop :=
  ∀ (Z : Zc) (tm : List (T × V)) (O : List (Option Addr)) (ρ : En) (σ : St) (H : Hp) (ts : List T) (vs : List V) (q : Rt → Prop) (Q : VK), EnvAt K Z tm O ρ σ H → Paired (fun v t => AtR K H (av Z O) t v) vs ts → p ts q →
    (∀ t, q t → ∀ u H', Same H H' → RetX K Z tm O ρ σ H' t u → Q u H') → r vs H Q
section
variable {X : Cx} {Z : Zc} {e a b : Expr} {es : List Expr} {pos p : Pos} {g : FA} {x : Str} {id Ty : String} {r : List V → Hp → VK → Prop} {pp : List T → (Rt → Prop) → Prop}
theorem vp_callB (hc : CallR X (.builtin id) r) (ht : CallT X.K r pp) (hg : Gl X x) (hm : X.mg x = none) (hv : bootBuiltins x = some (.builtin id)) (ha : VAR X Z (e :: es) g) (hn : x ≠ "__name__" := by decide) (hdb : (x == ("__debug__" : Str)) = false := by decide)
    (hs : starEach (e :: es) X.env = (false, eval e X.env) :: starEach es X.env := by rfl) (hpl : (backTo pos (starEach es X.env)).any (·.1) = false := by rfl) : VP X Z (.Call (.Name x p) (e :: es) [] pos) (fCall g pp) :=
  .mk fun tm => PE.weak (pe_callB hc hg hm hv (ha tm) hn hdb hs hpl) fun σ H Q ⟨ρ, O, q, I, hf, k⟩ => ⟨ρ, O, _, I, hf, fun ts hts vs H1 s1 a1 => ht Z tm O ρ σ H1 ts vs q _ (I.same s1) a1 hts fun t h u H' s z => k t h u H' (s1.trans s) z⟩
theorem vp_callTy (hc : CallR X (.type Ty) r) (ht : CallT X.K r pp) (hg : Gl X x) (hm : X.mg x = none) (hv : bootBuiltins x = some (.type Ty)) (ha : VAR X Z (e :: es) g) (hn : x ≠ "__name__" := by decide) (hdb : (x == ("__debug__" : Str)) = false := by decide)
    (hs : starEach (e :: es) X.env = (false, eval e X.env) :: starEach es X.env := by rfl) (hpl : (backTo pos (starEach es X.env)).any (·.1) = false := by rfl) : VP X Z (.Call (.Name x p) (e :: es) [] pos) (fCall g pp) :=
  .mk fun tm => PE.weak (pe_callTy hc hg hm hv (ha tm) hn hdb hs hpl) fun σ H Q ⟨ρ, O, q, I, hf, k⟩ => ⟨ρ, O, _, I, hf, fun ts hts vs H1 s1 a1 => ht Z tm O ρ σ H1 ts vs q _ (I.same s1) a1 hts fun t h u H' s z => k t h u H' (s1.trans s) z⟩
end
def pLen (ts : List T) (q : Rt → Prop) : Prop := match ts with
  | [.lst l] => q (.vw (.int l.length))
  | [.tup l] => q (.vw (.int l.length))
  | [.str z] => z.length ≤ sizeLine ∧ q (.vw (.int z.length))
  | _ => False
def rLenU (K : PySem.W.Frag) : List V → Hp → VK → Prop := fun xs H Q => (∃ p ys, xs = [.ref p] ∧ (SqL K H p ys ∨ SqT K H p ys) ∧ Q (.int ys.length) H) ∨ (∃ z, xs = [.str z] ∧ z.length ≤ sizeLine ∧ Q (.int z.length) H)
theorem call_lenU {X : Cx} : CallR X (.builtin "len") (rLenU X.K) := CallR.or call_len_seq call_len_str
theorem paired1 {α β : Type} {F : α → β → Prop} {vs : List α} {t : β} (h : Paired F vs [t]) : ∃ v, vs = [v] ∧ F v t := by
  cases h with
  | cons r q => cases q; exact ⟨_, rfl, r⟩
theorem callT_len {K : PySem.W.Frag} : CallT K (rLenU K) pLen := by
  intro Z tm O ρ σ H ts vs q Q I h hp k
  unfold pLen at hp
  split at hp
  · obtain ⟨v, rfl, a⟩ := paired1 h
    obtain ⟨p, ws, rfl, q1, q2⟩ := a.lst
    exact .inl ⟨p, ws, rfl, .inl q1, k _ hp _ H (Same.refl H) ⟨I, by rw [q2.length]; exact at_int⟩⟩
  · obtain ⟨v, rfl, a⟩ := paired1 h
    obtain ⟨p, ws, rfl, q1, q2⟩ := a.tup
    exact .inl ⟨p, ws, rfl, .inr q1, k _ hp _ H (Same.refl H) ⟨I, by rw [q2.length]; exact at_int⟩⟩
  · obtain ⟨v, rfl, a⟩ := paired1 h
    exact .inr ⟨_, by rw [a.str], hp.1, k _ hp.2 _ H (Same.refl H) ⟨I, at_int⟩⟩
  · exact hp.elim
def pList (ts : List T) (q : Rt → Prop) : Prop := match ts with
  | [.lst l] => q (.fr (.lst l))
  | [.tup l] => q (.fr (.lst l))
  | _ => False
theorem callT_list {K : PySem.W.Frag} : CallT K (fun xs H Q => ∃ p ys, xs = [.ref p] ∧ (SqL K H p ys ∨ SqT K H p ys) ∧ ∀ l, H l = none → Q (.ref l) (upd H l (.lst ys))) pList := by
  intro Z tm O ρ σ H ts vs q Q I h hp k
  unfold pList at hp
  split at hp
  · obtain ⟨v, rfl, a⟩ := paired1 h
    obtain ⟨p, ws, rfl, q1, q2⟩ := a.lst
    exact ⟨p, ws, rfl, .inl q1, fun l hl => k _ hp _ _ (same_upd hl) (I.newL hl q2)⟩
  · obtain ⟨v, rfl, a⟩ := paired1 h
    obtain ⟨p, ws, rfl, q1, q2⟩ := a.tup
    exact ⟨p, ws, rfl, .inr q1, fun l hl => k _ hp _ _ (same_upd hl) (I.newL hl q2)⟩
  · exact hp.elim
end VT
set_option Elab.async false
set_option linter.all false
set_option maxRecDepth 100000
set_option maxHeartbeats 4000000
namespace VT
open PySem PySem.Spec PyProof.Rows L2
structure VEn where
  nx : En → Prop
  rt : En → Rt → Prop
  bk : En → Prop := fun _ => False
  ct : En → Prop := fun _ => False
structure Fin (K : PySem.W.Frag) (Z : Zc) (tm : List (T × V)) (d : VEn) (D : Ends) : Prop where
  nx : ∀ O ρ σ H, EnvAt K Z tm O ρ σ H → d.nx ρ → D.nx σ H
  rt : ∀ O ρ σ H r v, RetX K Z tm O ρ σ H r v → d.rt ρ r → D.rt v H
  bk : ∀ O ρ σ H, EnvAt K Z tm O ρ σ H → d.bk ρ → D.bk σ H
  ct : ∀ O ρ σ H, EnvAt K Z tm O ρ σ H → d.ct ρ → D.ct σ H
abbrev FS := VEn → En → Prop
def lS (X : Cx) (Z : Zc) (tm : List (T × V)) (g : FS) : TS := fun D σ H => ∃ ρ O d, EnvAt X.K Z tm O ρ σ H ∧ g d ρ ∧ Fin X.K Z tm d D
def VS (X : Cx) (Z : Zc) (st : Stmt) (g : FS) : Prop := Bx fun tm => PS X st (lS X Z tm g)
instance {X : Cx} {Z : Zc} {st : Stmt} {g : FS} : CoeFun (VS X Z st g) fun _ => ∀ tm, PS X st (lS X Z tm g) := ⟨fun h => Bx.h h⟩
def VSs (X : Cx) (Z : Zc) (st : List Stmt) (g : FS) : Prop := Bx fun tm => PSs X st (lS X Z tm g)
instance {X : Cx} {Z : Zc} {st : List Stmt} {g : FS} : CoeFun (VSs X Z st g) fun _ => ∀ tm, PSs X st (lS X Z tm g) := ⟨fun h => Bx.h h⟩
def NotPar (Z : Zc) (i : Nat) : Prop := ∀ p ∈ Z.P, p.1 ≠ i
section
variable {X : Cx} {Z : Zc} {st : Stmt} {rest : List Stmt} {g u : FS} {e : Expr} {pos : Pos}
def gNext : FS := fun d ρ => d.nx ρ
def gSeq (g u : FS) : FS := fun d ρ => g { d with nx := u d } ρ
theorem vss_nil : VSs X Z [] gNext := .mk fun tm => PSs.weak' pss_nil fun D σ H ⟨ρ, O, d, I, h, F⟩ => F.nx O ρ σ H I h
theorem vss_cons (h1 : VS X Z st g) (h2 : VSs X Z rest u) : VSs X Z (st :: rest) (gSeq g u) := .mk fun tm => PSs.weak' (pss_cons (h1 tm) (h2 tm)) fun D σ H ⟨ρ, O, d, I, h, F⟩ =>
  ⟨ρ, O, { d with nx := u d }, I, h, ⟨fun O' ρ' σ' H' I' h' => ⟨ρ', O', d, I', h', F⟩, F.rt, F.bk, F.ct⟩⟩
theorem vss_one (h1 : VS X Z st g) : VSs X Z [st] g := .mk fun tm => pss_one (h1 tm)
theorem VSs.weak (h : VSs X Z rest g) (hw : ∀ d ρ, u d ρ → g d ρ) : VSs X Z rest u := .mk fun tm => PSs.weak' (h tm) fun D σ H ⟨ρ, O, d, I, q, F⟩ => ⟨ρ, O, d, I, hw d ρ q, F⟩
def gDrop (f : FX) : FS := fun d ρ => f ρ fun ρ' _ => d.nx ρ'
theorem vs_expr {f : FX} (h : VX X Z e f) (hs : swapsWith e none pos.line X.env = pure false := by rfl) : VS X Z (.Expr e pos) (gDrop f) := .mk fun tm => PS.weak (ps_expr (h tm) hs) fun D σ H ⟨ρ, O, d, I, q, F⟩ =>
  ⟨ρ, O, _, I, q, fun ρ' r hr O' v H' z => F.nx O' ρ' σ H' z.env hr⟩
def gRet (f : FX) : FS := fun d ρ => f ρ fun ρ' r => d.rt ρ' r
theorem vs_ret {f : FX} (h : VX X Z e f) : VS X Z (.Return (some e) pos) (gRet f) := .mk fun tm => PS.weak (ps_ret (h tm)) fun D σ H ⟨ρ, O, d, I, q, F⟩ =>
  ⟨ρ, O, _, I, q, fun ρ' r hr O' v H' z => F.rt O' ρ' σ H' r v z hr⟩
def gIf (c : FB) (g u : FS) : FS := fun d ρ => c ρ fun b => if b = true then g d ρ else u d ρ
theorem vs_if {c : Expr} {fc : FB} {a b : List Stmt} (hc : VC X Z c fc) (ha : VSs X Z a g) (hb : VSs X Z b u) : VS X Z (.If c a b pos) (gIf fc g u) := .mk fun tm => PS.weak (ps_if (hc tm) (ha tm) (hb tm)) fun D σ H ⟨ρ, O, d, I, q, F⟩ =>
  ⟨ρ, O, _, I, q, fun b hb H' s => by
    cases b with
    | true => rw [if_pos rfl] at hb ⊢; exact ⟨ρ, O, d, I.same s, hb, F⟩
    | false => rw [if_neg Bool.false_ne_true] at hb ⊢; exact ⟨ρ, O, d, I.same s, hb, F⟩⟩
def gSet (i : Nat) (f : FX) : FS := fun d ρ => f ρ fun ρ' r => d.nx (ρ'.set i (some (r.t, false)))
def gOwn (i : Nat) (f : FX) : FS := fun d ρ => f ρ fun ρ' r => match r with
  | .fr t => d.nx (ρ'.set i (some (t, true)))
  | _ => False
theorem vs_set {i : Nat} {x : Str} {f : FX} {pos' : Pos} (hN : X.N.Nodup) (hi : X.N[i]? = some x) (hx : Loc X.env.scope x) (he : VX X Z e f) (hp : NotPar Z i) (hs : swapsWith e (some (.Name x pos')) pos.line X.env = pure false := by rfl)
    (hf : X.fn x = true ∨ X.env.scope.names.lookup x = some .local := by first | exact .inl rfl | exact .inr rfl | assumption) : VS X Z (.Assign [.Name x pos'] e pos) (gSet i f) := .mk fun tm => PS.weak (ps_set hN hi hx (he tm) hs hf) fun D σ H ⟨ρ, O, d, I, q, F⟩ =>
  ⟨ρ, O, _, I, q, fun ρ' r hr O' v H' z => F.nx _ _ _ H' (z.env.put hp z.at) hr⟩
theorem vs_own {i : Nat} {x : Str} {f : FX} {pos' : Pos} (hN : X.N.Nodup) (hi : X.N[i]? = some x) (hx : Loc X.env.scope x) (he : VX X Z e f) (hp : NotPar Z i) (hs : swapsWith e (some (.Name x pos')) pos.line X.env = pure false := by rfl)
    (hf : X.fn x = true ∨ X.env.scope.names.lookup x = some .local := by first | exact .inl rfl | exact .inr rfl | assumption) : VS X Z (.Assign [.Name x pos'] e pos) (gOwn i f) := .mk fun tm => PS.weak (ps_set hN hi hx (he tm) hs hf) fun D σ H ⟨ρ, O, d, I, q, F⟩ =>
  ⟨ρ, O, _, I, q, fun ρ' r hr O' v H' z => by
    split at hr
    · obtain ⟨a, rfl, J, hR, h0, hx'⟩ := z
      exact F.nx _ _ _ H' (J.own' hp hR h0 hx') hr
    · exact hr.elim⟩
def gAug (i : Nat) (f : FE) (p : T → T → (Rt → Prop) → Prop) : FS := fun d ρ => match ρ[i]? with
  | some (some (x, false)) => f ρ fun y => p x y fun r => d.nx (ρ.set i (some (r.t, false)))
  | _ => False
theorem vs_aug {i : Nat} {x : Str} {f : FE} {op : Operator} {r : R2} {p : T → T → (Rt → Prop) → Prop} {pos' : Pos} (hN : X.N.Nodup) (hi : X.N[i]? = some x) (hx : Loc X.env.scope x) (he : VR X Z e f) (ho : OpR X (inplaceOp op) r) (ht : OpT X.K r p) (hp : NotPar Z i)
    (hf : X.fn x = true ∨ X.env.scope.names.lookup x = some .local := by first | exact .inl rfl | exact .inr rfl | assumption) : VS X Z (.AugAssign (.Name x pos') op e pos) (gAug i f p) := .mk fun tm => PS.weak (ps_aug hN hi hx (he tm) ho hf) fun D σ H ⟨ρ, O, d, I, q, F⟩ => by
  unfold gAug at q
  split at q
  · rename_i t e0
    obtain ⟨o, s, h1, h2, rfl, v, rfl, h3⟩ := I.sl i _ e0
    refine ⟨v, h2, ρ, O, _, I, q, fun y hy w H1 s1 a1 => ?_⟩
    exact ht Z tm O ρ σ H1 t y v w _ _ (I.same s1) (.inl (h3.same s1)) a1 hy fun r hr z H2 s2 k => F.nx _ _ _ H2 (k.env.put hp k.at) hr
  · exact q.elim
end
section
variable {X : Cx} {Z : Zc} {e a b : Expr} {es : List Expr} {pos apos cpos : Pos}
theorem EnvAt.root {K : PySem.W.Frag} {tm : List (T × V)} {O : List (Option Addr)} {ρ : En} {σ : St} {H : Hp} (I : EnvAt K Z tm O ρ σ H) {k : Nat} {t : T} (e : ρ[k]? = some (some (t, true))) : ∃ a, O[k]? = some (some a) ∧ σ[k]? = some (some (.ref a)) ∧ Root K H (av Z O) a t := by
  obtain ⟨o, s, h1, h2, a, rfl, rfl, h3⟩ := I.sl k _ e
  exact ⟨a, h1, h2, h3⟩
def fMeth (k : Nat) (g : FA) (p : List T → List T → (List T → T → Prop) → Prop) : FX := fun ρ Q => match ρ[k]? with
  | some (some (.lst ts, true)) => g ρ fun vs => p ts vs fun ts' r => Q (ρ.set k (some (.lst ts', true))) (.vw r)
  | _ => False
def MtT (K : PySem.W.Frag) (r : V → List V → Hp → VK → Prop) (p : List T → List T → (List T → T → Prop) → Prop) : Prop :=
  ∀ (H : Hp) (A : List Addr) (l : Addr) (xs : List V) (ts us : List T) (vs : List V) (q : List T → T → Prop) (Q : VK), l ∈ A → H l = some (.lst xs) → AtL K H A ts xs → AtL K H A us vs → p ts us q →
    (∀ ts' t, q ts' t → ∀ xs' v, AtL K H A ts' xs' → At K H A t v → Q v (upd H l (.lst xs'))) → r (.ref l) vs H Q
theorem meth_ok {r : V → List V → Hp → VK → Prop} {p : List T → List T → (List T → T → Prop) → Prop} (hm : MtT X.K r p) {k : Nat} {g : FA} {tm : List (T × V)} {σ : St} {H : Hp} {Q : VK} (h : lX X Z tm (fMeth k g p) σ H Q) :
    ∃ l, σ[k]? = some (some (.ref l)) ∧ (∃ xs, SqL X.K H l xs) ∧ lA X Z tm g σ H fun vs H1 => r (.ref l) vs H1 Q := by
  obtain ⟨ρ, O, q, I, hf, kk⟩ := h
  unfold fMeth at hf
  split at hf
  · rename_i ts e0
    obtain ⟨l, h1, h2, xs, h3, h4⟩ := I.root e0
    refine ⟨l, h2, ⟨xs, SqL.of h3⟩, ρ, O, _, I, hf, fun us hus vs H1 s1 a1 => ?_⟩
    have J := I.same s1
    have ha : l ∈ av Z O := List.mem_append_left _ (mem_roots.mpr (List.mem_of_getElem? h1))
    refine hm H1 (av Z O) l xs ts us vs _ Q ha (s1 _ _ h3) (h4.same s1) a1 hus fun ts' t ht xs' v b1 b2 => ?_
    exact kk _ _ ht O _ _ ⟨J.wrote e0 h1 ⟨xs', upd_same, b1.wrote ha (s1 _ _ h3) rfl⟩, b2.wrote ha (s1 _ _ h3) rfl⟩
  · exact hf.elim
theorem vx_bm (k : Nat) {x name : Str} {id : String} {p : Pos} {g : FA} {r : V → List V → Hp → VK → Prop} {pp : List T → List T → (List T → T → Prop) → Prop} (slot : Slot "list" name id) (hty : typeOf (.builtin id) = pure (.type "method_descriptor")) (hm : MtR X id r) (ht : MtT X.K r pp) (ha : VA X Z (e :: es) g)
    (hN : X.N[k]? = some x := by rfl) (hv : Vis X.env.scope x := by first | exact Or.inl rfl | exact Or.inr (Or.inl rfl) | exact Or.inr (Or.inr rfl)) (hd : (x == ("__debug__" : Str)) = false := by decide)
    (hcd : (x == ("__classdict__" : Str)) = false := by decide) (hbase : attributeBase (.Name x p) name X.env (eval (.Name x p) X.env) = eval (.Name x p) X.env := by rfl)
    (hfew : ((backTo cpos (starEach (e :: es) X.env)).all (fun x => !x.1) && (backToKw cpos (keywordEach [] X.env)).all (fun x => x.1.isSome)
      && decide ((e :: es).length + ([] : List Keyword).length + (if ([] : List Keyword).isEmpty then 0 else 1) < 30)) = true := by rfl)
    (hline : (apos.endLine == cpos.line) = true := by rfl) (hs : starEach (e :: es) X.env = (false, eval e X.env) :: starEach es X.env := by rfl) (hplain : (backTo cpos (starEach es X.env)).any (·.1) = false := by rfl) :
    VX X Z (.Call (.Attribute (.Name x p) name apos) (e :: es) [] cpos) (fMeth k g pp) := .mk fun tm =>
  PE.weak (pe_bm PySem.F.plainAttrs_list slot hty hm (pe_var hN hv hd hcd) (ha tm) hbase hfew hline hs hplain) fun σ H Q h =>
    let ⟨l, h1, h2, h3⟩ := meth_ok ht h; ⟨.ref l, h1, .inl ⟨rfl, h2⟩, h3⟩
def pAppend (ts us : List T) (q : List T → T → Prop) : Prop := match us with
  | [t] => ts.length < sizeLine ∧ q (ts ++ [t]) .non
  | _ => False
theorem mtT_append {K : PySem.W.Frag} : MtT K rAppend pAppend := by
  intro H A l xs ts us vs q Q hl hH h1 h2 hp k
  unfold pAppend at hp
  split at hp
  · obtain ⟨v, rfl, a⟩ := paired1 (AtL.iff.mp h2)
    exact ⟨l, xs, v, rfl, rfl, hH, by rw [h1.length]; exact hp.1, k _ _ hp.2 _ _ (h1.append (AtL.cons a AtL.nil)) at_non⟩
  · exact hp.elim
def gPut' (k : Nat) (f fi : FE) : FS := fun d ρ => match ρ[k]? with
  | some (some (.lst ts, true)) => f ρ fun v => fi ρ fun i => match i with
    | .int j => ∃ n, ixN ts.length j = some n ∧ d.nx (ρ.set k (some (.lst (ts.set n v), true)))
    | _ => False
  | _ => False
theorem vs_put (k : Nat) {x : Str} {p : Pos} {f fi : FE} {i : Expr} {tpos : Pos} (he : VE X Z e f) (hi : VR X Z i fi)
    (hN : X.N[k]? = some x := by rfl) (hv : Vis X.env.scope x := by first | exact Or.inl rfl | exact Or.inr (Or.inl rfl) | exact Or.inr (Or.inr rfl)) (hd : (x == ("__debug__" : Str)) = false := by decide)
    (hcd : (x == ("__classdict__" : Str)) = false := by decide)
    (ha : ∀ v, assign (.Subscript (.Name x p) i tpos) X.env v = (do
      let ov ← holding [v] (eval (.Name x p) X.env)
      let iv ← holding [v, ov] (eval i X.env)
      standAt tpos
      holding [v, ov, iv] (setItem ov iv v)
      release [v, ov, iv] []) := by intro _; rfl)
    (hs : swapsWithSole [.Subscript (.Name x p) i tpos] e pos.line X.env = pure false := by rfl) (hw : swappedStores [.Subscript (.Name x p) i tpos] e X.env = pure none := by rfl)
    (h1 : (assignEach [.Subscript (.Name x p) i tpos] X.env).map (·.2) = [assign (.Subscript (.Name x p) i tpos) X.env] := by rfl) : VS X Z (.Assign [.Subscript (.Name x p) i tpos] e pos) (gPut' k f fi) := .mk fun tm =>
  PS.weak (ps_asg (he tm) (pg_sub (pe_var hN hv hd hcd) (hi tm) set_list ha) hs hw h1) fun D σ H ⟨ρ, O, d, I, q, F⟩ => by
    unfold gPut' at q
    split at q
    · rename_i ts e0
      obtain ⟨l, h1, h2, xs, h3, h4⟩ := I.root e0
      have ha : l ∈ av Z O := List.mem_append_left _ (mem_roots.mpr (List.mem_of_getElem? h1))
      refine ⟨ρ, O, _, I, q, fun t ht v H1 s1 a1 => ⟨.ref l, h2, ρ, O, _, I.same s1, ht, fun j hj w H2 s2 a2 => ?_⟩⟩
      split at hj
      · obtain ⟨n, e1, hj⟩ := hj
        refine ⟨l, xs, _, n, rfl, a2.int, s2 _ _ (s1 _ _ h3), by rw [h4.length]; exact e1, ?_⟩
        refine F.nx O _ σ _ (((I.same s1).same s2).wrote (t' := .lst (ts.set n t)) e0 h1 ⟨xs.set n v, upd_same, ?_⟩) hj
        exact AtL.wrote ha (s2 _ _ (s1 _ _ h3)) rfl (((h4.same s1).same s2).set n (a1.same s2))
      · exact hj.elim
    · exact q.elim
theorem EnvAt.give {K : PySem.W.Frag} {tm : List (T × V)} {O : List (Option Addr)} {ρ : En} {σ : St} {H : Hp} (I : EnvAt K Z tm O ρ σ H) {i : Nat} {t : T} (hp : NotPar Z i) (hi : ρ[i]? = some (some (t, true))) : ∃ a, σ[i]? = some (some (.ref a)) ∧ RetX K Z tm (O.set i none) (ρ.set i none) σ H (.fr t) (.ref a) := by
  obtain ⟨a, h1, h2, h3⟩ := I.root hi
  have ha : a ∈ roots O := mem_roots.mpr (List.mem_of_getElem? h1)
  obtain ⟨o1, o2, o3⟩ := I.own a ha
  have J := I.forget hp
  have J2 := I.frz hp hi
  have na : a ∉ roots (O.set i none) := fun z => by
    obtain ⟨o, s, g1, g2, g3, v, g4, g5⟩ := J2.sl i (some (t, false)) (by rw [List.getElem?_set_self (by rw [← I.lO]; exact (List.getElem?_eq_some_iff.mp h1).1)])
    rw [h2] at g2
    cases g2
    cases g4
    have nn : a ∉ av Z (O.set i none) := by
      obtain ⟨u, eu, mu⟩ := h3.mut
      cases t with
      | lst ts => simp only [At] at g5; obtain ⟨b, vs, eb, l, _⟩ := g5; cases eb; rcases l with l | ⟨oo, _, _, lk, _⟩
                  · exact l.2
                  · exact fun z2 => by
                      have key : ∀ (O : List (Option Addr)) (i : Nat), O[i]? = some (some a) → (roots O).Nodup → a ∉ roots (O.set i none) := by
                        intro O
                        induction O with
                        | nil => intro i h; simp at h
                        | cons o O ih =>
                          intro i h nd
                          cases i with
                          | zero =>
                            have : o = some a := by simpa using h
                            subst this
                            simp only [roots, List.set_cons_zero, List.filterMap_cons, id] at nd ⊢
                            exact (List.nodup_cons.mp nd).1
                          | succ i =>
                            have h' : O[i]? = some (some a) := by simpa using h
                            cases o with
                            | none => simp only [roots, List.set_cons_succ, List.filterMap_cons, id] at nd ⊢; exact ih i h' nd
                            | some b =>
                              simp only [roots, List.set_cons_succ, List.filterMap_cons, id] at nd ⊢
                              rw [List.nodup_cons] at nd
                              intro z
                              rcases List.mem_cons.mp z with z | z
                              · exact nd.1 (by rw [← z]; exact mem_roots.mpr (List.mem_of_getElem? h'))
                              · exact ih i h' nd.2 z
                      rcases List.mem_append.mp z2 with z2 | z2
                      · exact key O i h1 I.nd z2
                      · exact o2 z2
      | dk ks ts => simp only [At] at g5; obtain ⟨b, vs, eb, _, d, _⟩ := g5; cases eb; exact d.2
      | dt ks ts => simp only [At] at g5; obtain ⟨b, vs, eb, _, d, _⟩ := g5; cases eb; exact d.2
      | ins C ns ts => simp only [At] at g5; obtain ⟨b, dx, vs, eb, _, d, _⟩ := g5; cases eb; exact d.2
      | _ => exact h3.elim
    exact nn (List.mem_append_left _ z)
  have hP : Z.H0 a = none := by
    rcases o1 with z | z
    · obtain ⟨p, hpm, rfl⟩ := List.mem_map.mp z
      have := J.par p hpm
      exact absurd (mem_roots.mpr (List.mem_of_getElem? this)) na
    · exact z
  have sub : ∀ b ∈ av (Z.ex a) (O.set i none), b ∈ av Z O := fun b hb => by
    rcases av_ex_sub b hb with z | z
    · exact av_none_sub i b z
    · rw [z]; exact List.mem_append_left _ ha
  refine ⟨a, h2, a, rfl, ⟨J.lσ, J.lO, fun j e h => ?_, J.nd, fun b hb => ?_, J.par, fun b hb => ?_, J.keep, fun p hp => (I.tmp p hp).fewer sub⟩, h3.fewer sub, hP, o2⟩
  · rcases get_set h with ⟨rfl, rfl, hl⟩ | ⟨ne, h⟩
    · obtain ⟨o, s, g1, g2, g3⟩ := J.sl j none (by rw [List.getElem?_set_self hl])
      exact ⟨o, s, g1, g2, g3⟩
    · obtain ⟨o, s, g1, g2, g3⟩ := I.sl j e h
      exact ⟨o, s, by rw [List.getElem?_set_ne (Ne.symm ne)]; exact g1, g2, g3.map (fun _ _ q => q.fewer sub) fun _ _ _ q => q.fewer sub⟩
  · obtain ⟨q1, q2, q3⟩ := J.own b hb
    refine ⟨q1, fun z => ?_, q3⟩
    rcases List.mem_cons.mp z with z | z
    · exact na (by rw [← z]; exact hb)
    · exact q2 z
  · rcases List.mem_cons.mp hb with z | z
    · obtain ⟨u, eu, _⟩ := o3; rw [z, eu]; simp
    · exact I.ox b z
def fGive (i : Nat) : FX := fun ρ Q => match ρ[i]? with
  | some (some (t, true)) => Q (ρ.set i none) (.fr t)
  | some (some (t, false)) => Q ρ (.vw t)
  | _ => False
theorem vx_give (i : Nat) {x : Str} (hp : NotPar Z i) (hN : X.N[i]? = some x := by rfl) (hv : Vis X.env.scope x := by first | exact Or.inl rfl | exact Or.inr (Or.inl rfl) | exact Or.inr (Or.inr rfl)) (hd : (x == ("__debug__" : Str)) = false := by decide)
    (hcd : (x == ("__classdict__" : Str)) = false := by decide) : VX X Z (.Name x pos) (fGive i) := .mk fun tm => PE.weak (pe_var hN hv hd hcd) fun σ H Q ⟨ρ, O, q, I, hf, k⟩ => by
  unfold fGive at hf
  split at hf
  · rename_i t e
    obtain ⟨a, h1, h2⟩ := I.give hp e
    exact ⟨_, h1, k _ _ hf _ _ H h2⟩
  · rename_i t e
    obtain ⟨o, s, h1, h2, rfl, v, rfl, h3⟩ := I.sl i _ e
    exact ⟨v, h2, k _ _ hf O v H ⟨I, h3⟩⟩
  · exact hf.elim
end
end VT
set_option Elab.async false
set_option linter.all false
set_option maxRecDepth 100000
set_option maxHeartbeats 4000000
namespace VT
open PySem PySem.Spec PyProof.Rows L2
theorem EnvAt.tmps {K : PySem.W.Frag} {Z : Zc} {tm tm' : List (T × V)} {O : List (Option Addr)} {ρ : En} {σ : St} {H : Hp} (I : EnvAt K Z tm O ρ σ H) (h : ∀ p ∈ tm', At K H (av Z O) p.1 p.2) : EnvAt K Z tm' O ρ σ H :=
  ⟨I.lσ, I.lO, I.sl, I.nd, I.own, I.par, I.ox, I.keep, h⟩
theorem RetX.tmps {K : PySem.W.Frag} {Z : Zc} {srcs tm : List (T × V)} {O : List (Option Addr)} {ρ : En} {σ : St} {H : Hp} {r : Rt} {v : V} (h : RetX K Z (srcs ++ tm) O ρ σ H r v) : RetX K Z tm O ρ σ H r v := by
  cases r with
  | vw t => exact ⟨h.1.tmps fun p hp => h.1.tmp p (List.mem_append_right _ hp), h.2⟩
  | fr t => obtain ⟨a, e, I, q⟩ := h; exact ⟨a, e, I.tmps fun p hp => I.tmp p (List.mem_append_right _ hp), q⟩
def Wk (K : PySem.W.Frag) (J : It) (srcs : List (T × V)) (ts : List T) : Prop := ∀ H A, (∀ a ∈ A, H a ≠ none) → (∀ p ∈ srcs, At K H A p.1 p.2) → ∀ i : Nat,
  (i < ts.length → J.go i H) ∧ (ts.length = i → J.stop i H) ∧ ∀ t, ts[i]? = some t → ∀ x H', J.yld i H x H' → Same H H' ∧ At K H' A t x
abbrev FI := En → (List T → Prop) → Prop
def lI (X : Cx) (Z : Zc) (tm : List (T × V)) (f : FI) : TI := fun σ H R => ∃ ρ O q, EnvAt X.K Z tm O ρ σ H ∧ f ρ q ∧ ∀ ts, q ts → ∀ J H' srcs, Same H H' → (∀ p ∈ srcs, At X.K H' (av Z O) p.1 p.2) → Wk X.K J srcs ts → R J H'
def VI (X : Cx) (Z : Zc) (tg iter : Expr) (f : FI) : Prop := Bx fun tm => PI X tg iter (lI X Z tm f)
instance {X : Cx} {Z : Zc} {tg iter : Expr} {f : FI} : CoeFun (VI X Z tg iter f) fun _ => ∀ tm, PI X tg iter (lI X Z tm f) := ⟨fun h => Bx.h h⟩
theorem PI.weak {X : Cx} {tg e : Expr} {t t' : TI} (h : PI X tg e t) (hw : ∀ σ H R, t' σ H R → t σ H R) : PI X tg e t' := fun pins s σ H R I q => h pins s σ H R I (hw _ _ _ q)
theorem PG.weak {X : Cx} {tg : Expr} {t t' : TG} (h : PG X tg t) (hw : ∀ v σ H Q, t' v σ H Q → t v σ H Q) : PG X tg t' := fun pins s σ H v u Q I r q => h pins s σ H v u Q I r (hw _ _ _ _ q)
theorem PGs.weak {X : Cx} {tg : List Expr} {t t' : TGs} (h : PGs X tg t) (hw : ∀ v σ H Q, t' v σ H Q → t v σ H Q) : PGs X tg t' := fun pins s σ H v u Q I r q => h pins s σ H v u Q I r (hw _ _ _ _ q)
def iSeq (K : PySem.W.Frag) (tl : TE) : TI := fun σ H R => tl σ H fun x H1 => (∃ a, x = .ref a ∧ (∃ xs, SqL K H1 a xs) ∧ R (Itl K a) H1) ∨ (∃ a, x = .ref a ∧ (∃ xs, SqT K H1 a xs) ∧ R (Itt K a) H1) ∨ ∃ z, x = .str z ∧ R (Its z) H1
section
variable {X : Cx} {Z : Zc} {tg : Expr}
theorem pi_seq {l : Expr} {tl : TE} (hl : PE X l tl) : PI X tg l (iSeq X.K tl) := by
  intro pins s σ H R I h
  refine thn (hl pins s σ H _ I h) fun v s1 ⟨x, H1, I1, r1, q1⟩ => ?_
  rcases q1 with ⟨a, e, hq, q⟩ | ⟨a, e, hq, q⟩ | ⟨z, e, q⟩
  · subst e
    cases r1
    obtain ⟨xs, hq⟩ := hq
    obtain ⟨its, rv, p, hz⟩ := I1.list hq
    refine wpAny_pyIter_list p.isList ?_
    refine ⟨s1.heap.objs.size, [s1.heap.objs.size], _, _, H1, rfl, I1.kept (t' := s1.toks) fun b o e => Heap.get?_push_of_some _ e, turn_list a _, ⟨_, Heap.get?_push_size _ rfl, rfl, rfl⟩, fun b hb => ?_, q⟩
    have e : b = s1.heap.objs.size := by simpa using hb
    subst e
    exact I1.fpOk (Nat.le_refl _) (I1.hok.fresh (Nat.le_refl _))
  · subst e
    cases r1
    obtain ⟨xs, hq⟩ := hq
    obtain ⟨its, rv, p, hz⟩ := I1.tuple hq
    refine wpAny_pyIter_tuple (show s1.heap.IsTuple a its.toArray from p) ?_
    refine ⟨s1.heap.objs.size, [s1.heap.objs.size], _, _, H1, rfl, I1.kept (t' := s1.toks) fun b o e => Heap.get?_push_of_some _ e, turn_tuple a _, ⟨_, Heap.get?_push_size _ rfl, rfl, rfl⟩, fun b hb => ?_, q⟩
    have e : b = s1.heap.objs.size := by simpa using hb
    subst e
    exact I1.fpOk (Nat.le_refl _) (I1.hok.fresh (Nat.le_refl _))
  · subst e
    obtain ⟨t, rfl⟩ := r1
    refine wpAny_pyIter_strU ?_
    have I2 : Inv X pins σ H1 { s1 with heap := s1.heap.push { cls := .type (strIterType z), data := .fields #[.str z t, .int 0 0] } } := I1.kept (t' := s1.toks) fun b o e => Heap.get?_push_of_some _ e
    refine ⟨s1.heap.objs.size, [s1.heap.objs.size], _, _, H1, rfl, I2, turn_str z t _, ⟨_, Heap.get?_push_size _ rfl, rfl, rfl⟩, fun b hb => ?_, q⟩
    have e : b = s1.heap.objs.size := by simpa using hb
    subst e
    exact I1.fpOk (Nat.le_refl _) I1.fresh
def fSeq (f : FE) : FI := fun ρ Q => f ρ fun t => match t with
  | .lst ts => Q ts
  | .tup ts => Q ts
  | .str z => Q (z.cps.toList.map fun c => .str ⟨#[c]⟩)
  | _ => False
theorem wk_list {K : PySem.W.Frag} {a : Addr} {ts : List T} : Wk K (Itl K a) [(.lst ts, .ref a)] ts := fun H A hA h i => by
  have h := h _ List.mem_cons_self
  simp only [At] at h
  obtain ⟨b, vs, e, l, q⟩ := h
  cases e
  have hl := q.length
  refine ⟨fun hi => ⟨vs, vs[i]'(by omega), l.sq, by simp⟩, fun hi => ⟨vs, l.sq, by omega⟩, fun t ht x H' y => ?_⟩
  obtain ⟨rfl, y⟩ := y
  obtain ⟨v, e1, e2⟩ := q.get ht
  have := y vs l.sq
  rw [e1] at this
  cases this
  exact ⟨Same.refl _, e2⟩
theorem wk_tup {K : PySem.W.Frag} {a : Addr} {ts : List T} : Wk K (Itt K a) [(.tup ts, .ref a)] ts := fun H A hA h i => by
  have h := h _ List.mem_cons_self
  simp only [At] at h
  obtain ⟨b, vs, e, l, q⟩ := h
  cases e
  have hl := q.length
  refine ⟨fun hi => ⟨vs, vs[i]'(by omega), l, by simp⟩, fun hi => ⟨vs, l, by omega⟩, fun t ht x H' y => ?_⟩
  obtain ⟨rfl, y⟩ := y
  obtain ⟨v, e1, e2⟩ := q.get ht
  have := y vs l
  rw [e1] at this
  cases this
  exact ⟨Same.refl _, e2⟩
theorem wk_str {K : PySem.W.Frag} {z : Str} : Wk K (Its z) [] (z.cps.toList.map fun c => T.str ⟨#[c]⟩) := fun H A hA h i => by
  refine ⟨fun hi => by rw [List.length_map, Array.length_toList] at hi; exact hi, fun hi => by rw [List.length_map, Array.length_toList] at hi; exact Nat.le_of_eq hi, fun t ht x H' y => ?_⟩
  obtain ⟨rfl, c, hc, rfl⟩ := y
  rw [List.getElem?_map, Array.getElem?_toList, hc] at ht
  cases ht
  exact ⟨Same.refl _, at_str⟩
theorem vi_seq {l : Expr} {f : FE} (h : VE X Z l f) : VI X Z tg l (fSeq f) := .mk fun tm => PI.weak (pi_seq (h tm)) fun σ H R ⟨ρ, O, q, I, hf, k⟩ => ⟨ρ, O, _, I, hf, fun t ht v H' s a => by
  split at ht
  · have a0 := a
    simp only [At] at a
    obtain ⟨p, vs, rfl, l, _⟩ := a
    exact .inl ⟨p, rfl, ⟨vs, l.sq⟩, k _ ht _ H' _ s (fun p hp => by rw [List.mem_singleton.mp hp]; exact a0) wk_list⟩
  · have a0 := a
    simp only [At] at a
    obtain ⟨p, vs, rfl, l, _⟩ := a
    exact .inr (.inl ⟨p, rfl, ⟨vs, l⟩, k _ ht _ H' _ s (fun p hp => by rw [List.mem_singleton.mp hp]; exact a0) wk_tup⟩)
  · have e := a
    simp only [At] at e
    exact .inr (.inr ⟨_, e, k _ ht _ H' [] s (fun p hp => nomatch hp) wk_str⟩)
  · exact ht.elim⟩
def rangeT (lo : Int) (n : Nat) : List T := (List.range n).map fun i => T.int (lo + ((i : Nat) : Int))
theorem wk_range {K : PySem.W.Frag} {lo : Int} {n : Nat} : Wk K (Itr lo n) [] (rangeT lo n) := fun H A hA h i => by
  unfold rangeT
  refine ⟨fun hi => by rw [List.length_map, List.length_range] at hi; exact hi, fun hi => by rw [List.length_map, List.length_range] at hi; exact Nat.le_of_eq hi, fun t ht x H' y => ?_⟩
  obtain ⟨rfl, rfl⟩ := y
  rw [List.getElem?_map] at ht
  cases e : (List.range n)[i]? with
  | none => rw [e] at ht; cases ht
  | some j =>
    rw [e] at ht
    have hj : j = i := by
      have := List.getElem?_eq_some_iff.mp e
      obtain ⟨h1, h2⟩ := this
      simpa using h2.symm
    subst hj
    cases ht
    exact ⟨Same.refl _, at_int⟩
def pR1 (ts : List T) (Q : List T → Prop) : Prop := match ts with
  | [.int j] => -(2 ^ 62) ≤ j ∧ j < 2 ^ 62 ∧ Q (rangeT 0 j.toNat)
  | _ => False
def fRange (g : FA) (p : List T → (List T → Prop) → Prop) : FI := fun ρ Q => g ρ fun ts => p ts Q
theorem vi_range1 {a : Expr} {g : FE} {p pos : Pos} (hg : Gl X "range") (hm : X.mg "range" = none) (ha : VR X Z a g) (hs : starEach [a] X.env = [(false, eval a X.env)] := by rfl) :
    VI X Z tg (.Call (.Name "range" p) [a] [] pos) (fRange (fCons g fNil) pR1) := .mk fun tm => PI.weak (pi_range1 hg hm ((var_cons ha var_nil hs) tm) hs) fun σ H R ⟨ρ, O, q, I, hf, k⟩ => ⟨ρ, O, _, I, hf, fun ts hts vs H' s a => by
  unfold pR1 at hts
  split at hts
  · obtain ⟨v, rfl, a1⟩ := paired1 a
    exact ⟨_, by rw [a1.int], hts.1, hts.2.1, k _ hts.2.2 _ H' [] s (fun p hp => nomatch hp) wk_range⟩
  · exact hts.elim⟩
abbrev FG := T → En → (En → Prop) → Prop
abbrev FGs := List T → En → (En → Prop) → Prop
def lG (X : Cx) (Z : Zc) (tm : List (T × V)) (is : List Nat) (h : FG) : TG := fun v σ H Q => ∃ ρ O t q, EnvAt X.K Z tm O ρ σ H ∧ At X.K H (av Z O) t v ∧ h t ρ q ∧ ∀ ρ', q ρ' → ∀ O' σ', EnvAt X.K Z tm O' ρ' σ' H → (∀ a ∈ roots O', a ∈ roots O) → (∀ (j : Nat), j ∉ is → O'[j]? = O[j]?) → σ'.length = σ.length → (∀ (j : Nat), j ∉ is → σ'[j]? = σ[j]?) → Q σ' H
def lGs (X : Cx) (Z : Zc) (tm : List (T × V)) (is : List Nat) (h : FGs) : TGs := fun vs σ H Q => ∃ ρ O ts q, EnvAt X.K Z tm O ρ σ H ∧ AtL X.K H (av Z O) ts vs ∧ h ts ρ q ∧ ∀ ρ', q ρ' → ∀ O' σ', EnvAt X.K Z tm O' ρ' σ' H → (∀ a ∈ roots O', a ∈ roots O) → (∀ (j : Nat), j ∉ is → O'[j]? = O[j]?) → σ'.length = σ.length → (∀ (j : Nat), j ∉ is → σ'[j]? = σ[j]?) → Q σ' H
def VG (X : Cx) (Z : Zc) (tg : Expr) (is : List Nat) (h : FG) : Prop := Bx fun tm => PG X tg (lG X Z tm is h)
instance {X : Cx} {Z : Zc} {tg : Expr} {is : List Nat} {h : FG} : CoeFun (VG X Z tg is h) fun _ => ∀ tm, PG X tg (lG X Z tm is h) := ⟨fun h => Bx.h h⟩
def VGs (X : Cx) (Z : Zc) (tgs : List Expr) (is : List Nat) (h : FGs) : Prop := Bx fun tm => PGs X tgs (lGs X Z tm is h)
instance {X : Cx} {Z : Zc} {tgs : List Expr} {is : List Nat} {h : FGs} : CoeFun (VGs X Z tgs is h) fun _ => ∀ tm, PGs X tgs (lGs X Z tm is h) := ⟨fun h => Bx.h h⟩
def hName (i : Nat) : FG := fun t ρ Q => Q (ρ.set i (some (t, false)))
theorem vg_name {i : Nat} {x : Str} {pos : Pos} (hN : X.N.Nodup) (hi : X.N[i]? = some x) (hx : Loc X.env.scope x) (hp : NotPar Z i) (hf : X.fn x = true ∨ X.env.scope.names.lookup x = some .local := by first | exact .inl rfl | exact .inr rfl | assumption) :
    VG X Z (.Name x pos) [i] (hName i) := .mk fun tm => PG.weak (pg_name hN hi hx hf) fun v σ H Q ⟨ρ, O, t, q, I, a, h, k⟩ =>
  k _ h _ _ (I.put hp a) (roots_set_sub i) (fun j hj => List.getElem?_set_ne (fun e => hj (by simp [e]))) (by simp) fun j hj => List.getElem?_set_ne (fun e => hj (by simp [e]))
def hNil : FGs := fun ts ρ Q => ts = [] ∧ Q ρ
def hCons (h : FG) (hs : FGs) : FGs := fun ts ρ Q => match ts with
  | t :: r => h t ρ fun ρ' => hs r ρ' Q
  | [] => False
def hTup (n : Nat) (h : FGs) : FG := fun t ρ Q => match t with
  | .tup ts => ts.length = n ∧ h ts ρ Q
  | _ => False
theorem vgs_nil : VGs X Z [] [] hNil := .mk fun tm => PGs.weak pgs_nil fun vs σ H Q ⟨ρ, O, ts, q, I, a, h, k⟩ => by
  obtain ⟨rfl, h⟩ := h
  have e : vs = [] := by simpa only [AtL] using a
  exact ⟨e, k _ h O σ I (fun _ z => z) (fun _ _ => rfl) rfl fun _ _ => rfl⟩
theorem vgs_cons {e : Expr} {es : List Expr} {is js : List Nat} {h : FG} {hs : FGs} (h1 : VG X Z e is h) (h2 : VGs X Z es js hs)
    (hse : (assignEach (e :: es) X.env).map (·.2) = assign e X.env :: (assignEach es X.env).map (·.2) := by rfl) : VGs X Z (e :: es) (is ++ js) (hCons h hs) := .mk fun tm => PGs.weak (pgs_cons (h1 tm) (h2 tm) hse) fun vs σ H Q ⟨ρ, O, ts, q, I, a, hh, k⟩ => by
  unfold hCons at hh
  split at hh
  · simp only [AtL] at a
    obtain ⟨v, r, rfl, a1, a2⟩ := a
    refine ⟨v, r, rfl, ρ, O, _, _, I, a1, hh, fun ρ' hρ O' σ' I' ro eo l e => ⟨ρ', O', _, q, I', a2.fewer fun b hb => ?_, hρ, fun ρ2 h2 O2 σ2 I2 ro2 eo2 l2 e2 => k ρ2 h2 O2 σ2 I2 (fun a z => ro a (ro2 a z)) (fun j hj => ?_) (l2.trans l) fun j hj => ?_⟩⟩
    · rcases List.mem_append.mp hb with z | z
      · exact List.mem_append_left _ (ro b z)
      · exact List.mem_append_right _ z
    · rw [List.mem_append, not_or] at hj
      exact (eo2 j hj.2).trans (eo j hj.1)
    · rw [List.mem_append, not_or] at hj
      exact (e2 j hj.2).trans (e j hj.1)
  · exact hh.elim
theorem vg_tup {es : List Expr} {k : Nat} {is : List Nat} {h : FGs} {n : Nat} {pos : Pos} (hc : X.calm = true) (hh : VGs X Z es is h)
    (hn : (assignEach es X.env).length = n := by rfl) (hst : (assignEach es X.env).findIdx? (·.1) = none := by rfl) : VG X Z (.Tuple es k pos) is (hTup n h) := .mk fun tm => PG.weak (pg_tup hc (hh tm) hn hst) fun v σ H Q ⟨ρ, O, t, q, I, a, h', kk⟩ => by
  unfold hTup at h'
  split at h'
  · simp only [At] at a
    obtain ⟨p, vs, rfl, s, a⟩ := a
    exact ⟨p, vs, rfl, s, a.length.trans h'.1, ρ, O, _, q, I, a, h'.2, kk⟩
  · exact h'.elim
def gAsg (f : FE) (h : FG) : FS := fun d ρ => f ρ fun t => h t ρ d.nx
theorem vs_asg {tg e : Expr} {f : FE} {is : List Nat} {h : FG} {pos : Pos} (he : VE X Z e f) (hg : VG X Z tg is h) (hs : swapsWithSole [tg] e pos.line X.env = pure false := by rfl) (hw : swappedStores [tg] e X.env = pure none := by rfl)
    (h1 : (assignEach [tg] X.env).map (·.2) = [assign tg X.env] := by rfl) : VS X Z (.Assign [tg] e pos) (gAsg f h) := .mk fun tm => PS.weak (ps_asg (he tm) (hg tm) hs hw h1) fun D σ H ⟨ρ, O, d, I, q, F⟩ =>
  ⟨ρ, O, _, I, q, fun t ht v H' s a => ⟨ρ, O, t, _, I.same s, a, ht, fun ρ' hρ O' σ' I' _ _ _ _ => F.nx O' ρ' σ' H' I' hρ⟩⟩
def LoopW (ts : List T) (h : FG) (g : FS) : FS := fun d ρ => ∃ Pv : Nat → En → Prop, Pv 0 ρ ∧ (∀ (i : Nat) t ρ', ts[i]? = some t → Pv i ρ' → h t ρ' fun ρ2 => g { nx := Pv (i + 1), ct := Pv (i + 1), bk := d.nx, rt := d.rt } ρ2) ∧ ∀ ρ', Pv ts.length ρ' → d.nx ρ'
def gFor (f : FI) (h : FG) (g : FS) : FS := fun d ρ => f ρ fun ts => LoopW ts h g d ρ
theorem vs_for {iter : Expr} {body : List Stmt} {f : FI} {is : List Nat} {h : FG} {g : FS} {pos : Pos} (hp : PassesOwn (model X.prog X.w) X.A X.env X.xe) (hc : X.calm = true) (hi : VI X Z tg iter f) (hg : VG X Z tg is h) (hb : VSs X Z body g)
    (hs : ∀ x, foldedSetIterable iter X.env x = pure x := by intro _; rfl) : VS X Z (.For tg iter body [] pos) (gFor f h g) := by
  refine .mk fun tm pins s σ H D I0 hw => ?_
  obtain ⟨ρ, O, d, I, q, F⟩ := hw
  refine ps_for (wi := lI X Z tm f) (g := fun v σ H Q => ∃ srcs, lG X Z (srcs ++ tm) is h v σ H Q) (tb := fun D σ H => ∃ srcs, lS X Z (srcs ++ tm) g D σ H) hp hc (hi tm) (fun pins s σ H v u Q I r ⟨srcs, z⟩ => hg (srcs ++ tm) pins s σ H v u Q I r z) (fun pins s σ H D I ⟨srcs, z⟩ => hb (srcs ++ tm) pins s σ H D I z) hs pins s σ H D I0 ?_
  refine ⟨ρ, O, _, I, q, fun ts hts J H' srcs s a wk => ?_⟩
  obtain ⟨Pv, p0, step, fin⟩ := hts
  have J0 : EnvAt X.K Z (srcs ++ tm) O ρ σ H' := (I.same s).tmps fun p hp => by
    rcases List.mem_append.mp hp with z | z
    · exact a p z
    · exact (I.same s).tmp p z
  refine ⟨fun i m σ H => m = ts.length - i ∧ i ≤ ts.length ∧ ∃ ρ O, EnvAt X.K Z (srcs ++ tm) O ρ σ H ∧ Pv i ρ, ⟨ts.length, by simp, Nat.zero_le _, ρ, O, J0, p0⟩, ?_⟩
  rintro i m σ1 H1 ⟨rfl, hi, ρ1, O1, I1, p1⟩
  obtain ⟨w1, w2, w3⟩ := wk H1 (av Z O1) I1.avH (fun p hp => I1.tmp p (List.mem_append_left _ hp)) i
  have un : ∀ {O : List (Option Addr)} {ρ : En} {σ : St} {H : Hp}, EnvAt X.K Z (srcs ++ tm) O ρ σ H → EnvAt X.K Z tm O ρ σ H := fun I => I.tmps fun p hp => I.tmp p (List.mem_append_right _ hp)
  by_cases hlt : i < ts.length
  · refine .inr ⟨w1 hlt, fun σ' H' => ∃ ρ O, EnvAt X.K Z (srcs ++ tm) O ρ σ' H' ∧ Pv (i + 1) ρ, fun σ' H' ⟨ρ', O', I', p'⟩ => ⟨ts.length - (i + 1), by omega, rfl, hlt, ρ', O', I', p'⟩, fun x H2 y => ?_⟩
    have e : ts[i]? = some ts[i] := by simp [hlt]
    obtain ⟨s2, a2⟩ := w3 ts[i] e x H2 y
    refine ⟨srcs, ρ1, O1, ts[i], _, I1.same s2, a2, step i _ ρ1 e p1, fun ρ2 h2 O2 σ2 I2 _ _ _ _ => ⟨srcs, ρ2, O2, _, I2, h2, ?_⟩⟩
    exact ⟨fun O ρ σ H I p => ⟨ρ, O, I, p⟩, fun O ρ σ H r v z p => F.rt O ρ σ H r v z.tmps p, fun O ρ σ H I p => F.nx O ρ σ H (un I) p, fun O ρ σ H I p => ⟨ρ, O, I, p⟩⟩
  · have e : i = ts.length := by omega
    subst e
    exact .inl ⟨w2 (rfl), F.nx O1 ρ1 σ1 H1 (un I1) (fin ρ1 p1)⟩
end
end VT
set_option Elab.async false
set_option linter.all false
set_option maxRecDepth 100000
set_option maxHeartbeats 4000000
namespace VT
open PySem PySem.Spec PyProof.Rows L2
theorem roots_app (O : List (Option Addr)) (n : Nat) : roots (O ++ List.replicate n none) = roots O := by
  unfold roots
  rw [List.filterMap_append]
  have : (List.replicate n (none : Option Addr)).filterMap id = [] := by
    induction n with
    | zero => rfl
    | succ n ih => rw [List.replicate_succ, List.filterMap_cons]; exact ih
  rw [this, List.append_nil]
theorem EnvAt.longer {K : PySem.W.Frag} {Z : Zc} {tm : List (T × V)} {O : List (Option Addr)} {ρ : En} {σ : St} {H : Hp} (I : EnvAt K Z tm O ρ σ H) (n : Nat) {τ : St} (hτ : τ.length = n) :
    EnvAt K Z tm (O ++ List.replicate n none) (ρ ++ List.replicate n none) (σ ++ τ) H := by
  have ea : av Z (O ++ List.replicate n none) = av Z O := by unfold av; rw [roots_app]
  refine ⟨by simp [I.lσ, hτ], by simp [I.lO], fun i e h => ?_, by rw [roots_app]; exact I.nd, fun a h => I.own a (by rw [roots_app] at h; exact h), fun p hp => ?_, I.ox, I.keep, fun p hp => by rw [ea]; exact I.tmp p hp⟩
  · rw [ea]
    by_cases hi : i < ρ.length
    · rw [List.getElem?_append_left hi] at h
      obtain ⟨o, s, h1, h2, h3⟩ := I.sl i e h
      exact ⟨o, s, by rw [List.getElem?_append_left (by rw [I.lO]; exact hi)]; exact h1, by rw [List.getElem?_append_left (by rw [I.lσ]; exact hi)]; exact h2, h3⟩
    · rw [List.getElem?_append_right (by omega), List.getElem?_replicate] at h
      split at h
      · rename_i hl
        cases h
        refine ⟨none, τ[i - σ.length]'(by rw [I.lσ, hτ]; exact hl), ?_, ?_, rfl⟩
        · rw [List.getElem?_append_right (by rw [I.lO]; omega), List.getElem?_replicate, if_pos (by rw [I.lO]; exact hl)]
        · rw [List.getElem?_append_right (by rw [I.lσ]; omega)]; simp
      · cases h
  · have := I.par p hp
    have hl := (List.getElem?_eq_some_iff.mp this).1
    rw [List.getElem?_append_left hl]; exact this
theorem EnvAt.wroteX {K : PySem.W.Frag} {Z : Zc} {tm : List (T × V)} {O : List (Option Addr)} {ρ : En} {σ : St} {H : Hp} {a : Addr} {u o : HO} (I : EnvAt K (Z.ex a) tm O ρ σ H) (hu : H a = some u) (hm : mutO u = true) (h0 : Z.H0 a = none) : EnvAt K (Z.ex a) tm O ρ σ (upd H a o) := by
  have hav : a ∈ av (Z.ex a) O := List.mem_append_right _ List.mem_cons_self
  have nr : ∀ b ∈ roots O, b ≠ a := fun b hb e => (I.own b hb).2.1 (by rw [e]; exact List.mem_cons_self)
  refine ⟨I.lσ, I.lO, fun i e h => ?_, I.nd, fun b hb => ?_, I.par, fun b hb => ?_, fun b o' e n => ?_, fun p hp => (I.tmp p hp).wrote hav hu hm⟩
  · obtain ⟨o', s, h1, h2, h3⟩ := I.sl i e h
    refine ⟨o', s, h1, h2, h3.map (fun _ _ q => q.wrote hav hu hm) fun b t e q => ?_⟩
    subst e
    exact q.map (upd_ne (nr b (mem_roots.mpr (List.mem_of_getElem? h1)))) fun _ _ z => z.wrote hav hu hm
  · obtain ⟨q1, q2, v, e, m⟩ := I.own b hb
    exact ⟨q1, q2, v, by rw [upd_ne (nr b hb)]; exact e, m⟩
  · by_cases e : b = a
    · subst e; rw [upd_same]; simp
    · rw [upd_ne e]; exact I.ox b hb
  · have : b ≠ a := fun e' => by
      subst e'
      have e2 : Z.H0 b = some o' := e
      rw [h0] at e2; cases e2
    rw [upd_ne this]; exact I.keep b o' e n
def wComp (h : FG) (fc : FB) (fe : FE) (ρ : En) : List T → (List T → Prop) → Prop
  | [], Q => Q []
  | t :: ts, Q => h t ρ fun ρ2 => fc ρ2 fun b => if b = true then fe ρ2 fun u => wComp h fc fe ρ ts fun us => Q (u :: us) else wComp h fc fe ρ ts Q
def fComp (n : Nat) (is : List Nat) (f : FI) (h : FG) (fc : FB) (fe : FE) : FP := fun ρ Q => (is.all fun j => decide (ρ.length ≤ j)) = true ∧ f ρ fun ts => ts.length ≤ sizeLine ∧ wComp h fc fe (ρ ++ List.replicate n none) ts fun us => Q (.fr (.lst us))
def VCs (X : Cx) (Z : Zc) (ifs : List Expr) (f : FB) : Prop := Bx fun tm => PTs X ifs (lB X Z tm f)
instance {X : Cx} {Z : Zc} {ifs : List Expr} {f : FB} : CoeFun (VCs X Z ifs f) fun _ => ∀ tm, PTs X ifs (lB X Z tm f) := ⟨fun h => Bx.h h⟩
def fYes : FB := fun _ Q => Q true
theorem PTs.weak {X : Cx} {e : List Expr} {t t' : TT} (h : PTs X e t) (hw : ∀ σ H Q, t' σ H Q → t σ H Q) : PTs X e t' := fun pins s σ H Q I q => h pins s σ H Q I (hw _ _ _ q)
section
variable {X : Cx} {Z : Zc}
theorem vcs_nil : VCs X Z [] fYes := .mk fun tm => PTs.weak pts_nil fun σ H Q ⟨ρ, O, q, I, h, k⟩ => k true h H (Same.refl H)
def cG (X : Cx) (Z : Zc) (tm : List (T × V)) (is : List Nat) (h : FG) : TG := fun v σ H Q => ∃ D srcs, lG X (Z.ex D) (srcs ++ tm) is h v σ H Q
def cB (X : Cx) (Z : Zc) (tm : List (T × V)) (f : FB) : TT := fun σ H Q => ∃ D srcs, lB X (Z.ex D) (srcs ++ tm) f σ H Q
def cE (X : Cx) (Z : Zc) (tm : List (T × V)) (f : FE) : TE := fun σ H Q => ∃ D srcs, lE X (Z.ex D) (srcs ++ tm) f σ H Q
theorem comp_W {K : PySem.W.Frag} {Z : Zc} {tm srcs : List (T × V)} {n : Nat} {O : List (Option Addr)} {ρ : En} {σ : St} {H1 : Hp} {D : Addr} {J : It} {ts : List T} {h : FG} {fc : FB} {fe : FE} {is : List Nat} {q : Rt → Prop} {Q : VK} (X : Cx) (hK : X.K = K)
    (I : EnvAt K Z (srcs ++ tm) O ρ σ H1) (hD : H1 D = none) (wk : Wk K J srcs ts) (hz : ts.length ≤ sizeLine) (his : ∀ j ∈ is, ρ.length ≤ j)
    (hw : wComp h fc fe (ρ ++ List.replicate n none) ts fun us => q (.fr (.lst us)))
    (k : ∀ r, q r → ∀ v H', Same H1 H' → RetX K Z tm O ρ σ H' r v → Q v H') :
    CompW J (cG X Z tm is h) (cB X Z tm fc) (cE X Z tm fe) n σ D (Q (.ref D)) H1 := by
  subst hK
  obtain ⟨n1, n2, n3⟩ := I.fresh hD
  refine ⟨fun i m acc H2 => m = ts.length - i ∧ i ≤ ts.length ∧ Same H1 H2 ∧ H2 D = some (.lst acc) ∧ ∃ us, AtL X.K H2 (av (Z.ex D) O) us acc ∧ acc.length ≤ i ∧ EnvAt X.K (Z.ex D) (srcs ++ tm) O ρ σ H2 ∧ wComp h fc fe (ρ ++ List.replicate n none) (ts.drop i) fun r => q (.fr (.lst (us ++ r))),
    ⟨ts.length, by simp, Nat.zero_le _, same_upd hD, upd_same, [], AtL.nil, Nat.zero_le _, I.new hD rfl, by simpa using hw⟩, ?_⟩
  rintro i m acc H2 ⟨rfl, hi, s2, hD2, us, a2, hl, I2, w2⟩
  refine ⟨hD2, ?_⟩
  obtain ⟨w1, w2', w3⟩ := wk H2 (av (Z.ex D) O) I2.avH (fun p hp => I2.tmp p (List.mem_append_left _ hp)) i
  by_cases hlt : i < ts.length
  · refine .inr ⟨w1 hlt, by omega, fun x H3 y => ?_⟩
    have e : ts[i]? = some ts[i] := by simp [hlt]
    obtain ⟨s3, a3⟩ := w3 ts[i] e x H3 y
    rw [List.drop_eq_getElem_cons hlt] at w2
    have I3 := (I2.same s3).longer n (τ := List.replicate n none) (by simp)
    have ea : av (Z.ex D) (O ++ List.replicate n none) = av (Z.ex D) O := by unfold av; rw [roots_app]
    refine ⟨D, srcs, _, _, ts[i], _, I3, by rw [ea]; exact a3, w2, fun ρ4 hρ4 O4 σ4 I4 ro4 eo4 l4 e4 => ⟨⟨?_, fun j v hj => ?_⟩, D, srcs, ρ4, O4, _, I4, hρ4, fun b hb H5 s5 => ?_⟩⟩
    · rw [l4]; simp
    · have hj' := (List.getElem?_eq_some_iff.mp hj).1
      have : j ∉ is := fun z => by have := his j z; have := I.lσ; omega
      rw [e4 j this, List.getElem?_append_left hj']; exact hj
    · have S5 := (s2.trans s3).trans s5
      have J5 := (I2.same s3).same s5
      cases b with
      | true =>
        rw [if_pos rfl] at hb
        refine iteT ⟨D, srcs, ρ4, O4, _, I4.same s5, hb, fun u hu y H6 s6 a6 => ?_⟩
        have hD6 := s6 _ _ (s5 _ _ (s3 _ _ hD2))
        refine ⟨hD6, ts.length - (i + 1), by omega, rfl, hlt, fun b o e => ?_, upd_same, us ++ [u], ?_, by simp; omega, (J5.same s6).wroteX hD6 rfl n3, ?_⟩
        · rw [upd_ne (ne_of_none e hD)]; exact s6 _ _ (S5 _ _ e)
        · have hav : D ∈ av (Z.ex D) O := List.mem_append_right _ List.mem_cons_self
          have a6' : At X.K H6 (av (Z.ex D) O) u y := a6.fewer fun b hb => by
            rcases List.mem_append.mp hb with z | z
            · obtain ⟨j, hj⟩ := List.mem_iff_getElem?.mp (mem_roots.mp z)
              have hj' := (List.getElem?_eq_some_iff.mp hj).1
              have nj : j ∉ is := fun z => by have := his j z; have := I.lO; omega
              have := eo4 j nj
              rw [List.getElem?_append_left hj', hj] at this
              exact List.mem_append_left _ (mem_roots.mpr (List.mem_of_getElem? this))
            · exact List.mem_append_right _ z
          exact AtL.wrote hav hD6 rfl ((((a2.same s3).same s5).same s6).append (AtL.cons a6' AtL.nil))
        · have e2 : ∀ r, (us ++ [u]) ++ r = us ++ (u :: r) := fun r => by simp
          simp only [e2]
          exact hu
      | false =>
        rw [if_neg Bool.false_ne_true] at hb
        exact iteF ⟨ts.length - (i + 1), by omega, rfl, hlt, S5, s5 _ _ (s3 _ _ hD2), us, (a2.same s3).same s5, by omega, J5, hb⟩
  · have e : i = ts.length := by omega
    subst e
    refine .inl ⟨w2' (rfl), ?_⟩
    rw [List.drop_length] at w2
    simp only [wComp, List.append_nil] at w2
    refine k _ w2 _ H2 s2 ⟨D, rfl, I2.tmps fun p hp => I2.tmp p (List.mem_append_right _ hp), ⟨acc, hD2, a2⟩, n3, n2⟩
theorem comp_ok {tm : List (T × V)} {n : Nat} {is : List Nat} {f : FI} {h : FG} {fc : FB} {fe : FE} {σ : St} {H : Hp} {Q : VK} (hq : lP X Z tm (fComp n is f h fc fe) σ H Q) : tComp n (lI X Z tm f) (cG X Z tm is h) (cB X Z tm fc) (cE X Z tm fe) σ H Q := by
  obtain ⟨ρ, O, q, I, ⟨his, hf⟩, k⟩ := hq
  refine ⟨ρ, O, _, I, hf, fun ts hts J H' srcs s a wk D hD => ?_⟩
  have I' : EnvAt X.K Z (srcs ++ tm) O ρ σ H' := (I.same s).tmps fun p hp => by
    rcases List.mem_append.mp hp with z | z
    · exact a p z
    · exact (I.same s).tmp p z
  refine comp_W X rfl I' hD wk hts.1 (fun j hj => ?_) hts.2 fun r hr v H2 s2 z => k r hr v H2 (s.trans s2) z
  have := List.all_eq_true.mp his j hj
  exact of_decide_eq_true this
variable {ts : List Str} {sc : Scope} {elt iter tg : Expr} {ifs : List Expr} {pos : Pos} {f : FI} {h : FG} {fc : FB} {fe : FE} {is : List Nat}
theorem vp_comp (hc : X.calm = true) (hS : compOk X.N ts X.env.scope sc = true) (hi : VI X Z tg iter f) (hg : ∀ D cl C fp s H, VG (compCx X ts sc cl C fp s H) (Z.ex D) tg is h) (ht : ∀ D cl C fp s H, VCs (compCx X ts sc cl C fp s H) (Z.ex D) ifs fc)
    (he : ∀ D cl C fp s H, VE (compCx X ts sc cl C fp s H) (Z.ex D) elt fe) (hs : ∀ x, foldedSetIterable iter X.env x = pure x := by intro _; rfl) : VP X Z (.ListComp elt [⟨tg, iter, ifs, 0⟩] sc pos) (fComp ts.length is f h fc fe) := .mk fun tm =>
  PE.weak (pe_comp hc hS (hi tm) (fun cl C fp s H pins s' σ H' v u Q I r ⟨D, srcs, z⟩ => hg D cl C fp s H (srcs ++ tm) pins s' σ H' v u Q I r z) (fun cl C fp s H pins s' σ H' Q I ⟨D, srcs, z⟩ => ht D cl C fp s H (srcs ++ tm) pins s' σ H' Q I z)
    (fun cl C fp s H pins s' σ H' Q I ⟨D, srcs, z⟩ => he D cl C fp s H (srcs ++ tm) pins s' σ H' Q I z) hs) fun σ H Q hq => comp_ok hq
end
end VT
set_option Elab.async false
set_option linter.all false
set_option maxRecDepth 100000
set_option maxHeartbeats 4000000
namespace VT
open PySem PySem.Spec PyProof.Rows L2
def ArgsAt (K : PySem.W.Frag) (H : Hp) (A : List Addr) : List Bool → List Addr → List T → List V → Prop
  | [], as, ts, vs => as = [] ∧ ts = [] ∧ vs = []
  | false :: fs, as, ts, vs => ∃ t ts' v vs', ts = t :: ts' ∧ vs = v :: vs' ∧ At K H A t v ∧ ArgsAt K H A fs as ts' vs'
  | true :: fs, as, ts, vs => ∃ a as' t ts' vs', as = a :: as' ∧ ts = t :: ts' ∧ vs = .ref a :: vs' ∧ Root K H A a t ∧ ArgsAt K H A fs as' ts' vs'
def RtAt (K : PySem.W.Frag) (H : Hp) (as Ox : List Addr) (H' : Hp) (us : List T) : Rt → V → Prop
  | .vw t, v => At K H' (as ++ Ox) t v ∧ Paired (fun a u => Root K H' (as ++ Ox) a u) as us
  | .fr t, v => ∃ b, v = .ref b ∧ H b = none ∧ b ∉ as ∧ Root K H' (b :: (as ++ Ox)) b t ∧ Paired (fun a u => Root K H' (b :: (as ++ Ox)) a u) as us
abbrev GT := List T → (List T → Rt → Prop) → Prop
def spOf (K : PySem.W.Frag) (fs : List Bool) (G : GT) : Sp := fun vs H Q _ => ∃ ts as Ox q, as.Nodup ∧ (∀ a ∈ as, a ∉ Ox) ∧ (∀ a ∈ Ox, H a ≠ none) ∧ ArgsAt K H (as ++ Ox) fs as ts vs ∧ G ts q ∧
  ∀ us r, q us r → ∀ v H', (∀ b o, H b = some o → b ∉ as → H' b = some o) → RtAt K H as Ox H' us r v → Q v H'
def ro : List Bool → List Addr → List (Option Addr)
  | [], _ => []
  | false :: fs, as => none :: ro fs as
  | true :: fs, a :: as => some a :: ro fs as
  | true :: fs, [] => none :: ro fs []
def pz : List Bool → List Addr → Nat → List (Nat × Addr)
  | [], _, _ => []
  | false :: fs, as, k => pz fs as (k + 1)
  | true :: fs, a :: as, k => (k, a) :: pz fs as (k + 1)
  | true :: fs, [], k => pz fs [] (k + 1)
def en0 : List Bool → List T → En
  | f :: fs, t :: ts => some (t, f) :: en0 fs ts
  | _, _ => []
def fins : List Bool → En → List T
  | [], _ => []
  | false :: fs, ρ => fins fs ρ.tail
  | true :: fs, some (t, _) :: ρ => t :: fins fs ρ
  | true :: fs, ρ => .non :: fins fs ρ.tail
section
variable {K : PySem.W.Frag} {H : Hp} {A : List Addr}
theorem args_len : ∀ {fs : List Bool} {as : List Addr} {ts : List T} {vs : List V}, ArgsAt K H A fs as ts vs → ts.length = fs.length ∧ vs.length = fs.length ∧ (ro fs as).length = fs.length ∧ (en0 fs ts).length = fs.length ∧ roots (ro fs as) = as
  | [], as, ts, vs, h => by obtain ⟨rfl, rfl, rfl⟩ := h; exact ⟨rfl, rfl, rfl, rfl, rfl⟩
  | false :: fs, as, ts, vs, h => by
    obtain ⟨t, ts', v, vs', rfl, rfl, _, h⟩ := h
    obtain ⟨h1, h2, h3, h4, h5⟩ := args_len h
    exact ⟨by simp [h1], by simp [h2], by simp [ro, h3], by simp [en0, h4], by simpa [ro, roots] using h5⟩
  | true :: fs, as, ts, vs, h => by
    obtain ⟨a, as', t, ts', vs', rfl, rfl, rfl, _, h⟩ := h
    obtain ⟨h1, h2, h3, h4, h5⟩ := args_len h
    refine ⟨by simp [h1], by simp [h2], by simp [ro, h3], by simp [en0, h4], ?_⟩
    simp only [ro, roots, List.filterMap_cons, id] at h5 ⊢
    rw [h5]
theorem args_env : ∀ {fs : List Bool} {as : List Addr} {ts : List T} {vs : List V}, ArgsAt K H A fs as ts vs → ∀ (i : Nat) e, (en0 fs ts)[i]? = some e → ∃ o s, (ro fs as)[i]? = some o ∧ (vs.map some)[i]? = some s ∧ SlotAt K H A e o s
  | [], as, ts, vs, h, i, e, he => by simp [en0] at he
  | false :: fs, as, ts, vs, h, i, e, he => by
    obtain ⟨t, ts', v, vs', rfl, rfl, a, h⟩ := h
    cases i with
    | zero => simp only [en0, List.getElem?_cons_zero, Option.some.injEq] at he; subst he; exact ⟨none, some v, rfl, rfl, rfl, v, rfl, a⟩
    | succ i => exact args_env h i e (by simpa [en0] using he)
  | true :: fs, as, ts, vs, h, i, e, he => by
    obtain ⟨a, as', t, ts', vs', rfl, rfl, rfl, r, h⟩ := h
    cases i with
    | zero => simp only [en0, List.getElem?_cons_zero, Option.some.injEq] at he; subst he; exact ⟨some a, some (.ref a), rfl, rfl, a, rfl, rfl, r⟩
    | succ i => exact args_env h i e (by simpa [en0] using he)
theorem args_root : ∀ {fs : List Bool} {as : List Addr} {ts : List T} {vs : List V}, ArgsAt K H A fs as ts vs → ∀ a ∈ as, ∃ t, Root K H A a t
  | [], as, ts, vs, h, a, ha => by obtain ⟨rfl, rfl, rfl⟩ := h; cases ha
  | false :: fs, as, ts, vs, h, a, ha => by obtain ⟨t, ts', v, vs', rfl, rfl, _, h⟩ := h; exact args_root h a ha
  | true :: fs, as, ts, vs, h, a, ha => by
    obtain ⟨b, as', t, ts', vs', rfl, rfl, rfl, r, h⟩ := h
    rcases List.mem_cons.mp ha with z | z
    · subst z; exact ⟨t, r⟩
    · exact args_root h a z
theorem pz_ok : ∀ {fs : List Bool} {as : List Addr} {ts : List T} {vs : List V} (k : Nat), ArgsAt K H A fs as ts vs → (pz fs as k).map (·.2) = as ∧ ∀ p ∈ pz fs as k, k ≤ p.1 ∧ (ro fs as)[p.1 - k]? = some (some p.2)
  | [], as, ts, vs, k, h => by obtain ⟨rfl, rfl, rfl⟩ := h; exact ⟨rfl, fun _ z => nomatch z⟩
  | false :: fs, as, ts, vs, k, h => by
    obtain ⟨t, ts', v, vs', rfl, rfl, _, h⟩ := h
    obtain ⟨h1, h2⟩ := pz_ok (k + 1) h
    refine ⟨h1, fun p hp => ?_⟩
    obtain ⟨l, e⟩ := h2 p hp
    refine ⟨by omega, ?_⟩
    have : p.1 - k = (p.1 - (k + 1)) + 1 := by omega
    rw [this]
    simpa [ro] using e
  | true :: fs, as, ts, vs, k, h => by
    obtain ⟨a, as', t, ts', vs', rfl, rfl, rfl, _, h⟩ := h
    obtain ⟨h1, h2⟩ := pz_ok (k + 1) h
    refine ⟨by simp [pz, h1], fun p hp => ?_⟩
    rcases List.mem_cons.mp hp with z | z
    · subst z; exact ⟨Nat.le_refl _, by simp [ro]⟩
    · obtain ⟨l, e⟩ := h2 p z
      refine ⟨by omega, ?_⟩
      have : p.1 - k = (p.1 - (k + 1)) + 1 := by omega
      rw [this]
      simpa [ro] using e
theorem fins_ok {R : Addr → T → Prop} {ρ : En} : ∀ {fs : List Bool} {as : List Addr} {ts : List T} {vs : List V} (k : Nat), ArgsAt K H A fs as ts vs → (∀ p ∈ pz fs as k, ∃ t, ρ[p.1]? = some (some (t, true)) ∧ R p.2 t) → Paired R as (fins fs (ρ.drop k))
  | [], as, ts, vs, k, h, _ => by obtain ⟨rfl, rfl, rfl⟩ := h; exact .nil
  | false :: fs, as, ts, vs, k, h, q => by
    obtain ⟨t, ts', v, vs', rfl, rfl, _, h⟩ := h
    have := fins_ok (k + 1) h q
    simp only [fins, List.tail_drop]
    exact this
  | true :: fs, as, ts, vs, k, h, q => by
    obtain ⟨a, as', t, ts', vs', rfl, rfl, rfl, _, h⟩ := h
    have := fins_ok (ρ := ρ) (k + 1) h fun p hp => q p (List.mem_cons_of_mem _ hp)
    obtain ⟨u, e, r⟩ := q (k, a) List.mem_cons_self
    have hk : k < ρ.length := (List.getElem?_eq_some_iff.mp e).1
    have e2 : ρ[k] = some (u, true) := by rw [List.getElem?_eq_getElem hk] at e; exact Option.some.inj e
    rw [List.drop_eq_getElem_cons hk, e2]
    exact .cons r this
end
section
variable {P : Program} {w : World} {K : PySem.W.Frag} {mg : Str → Option Value} {base : Heap}
theorem fnV {x qual : Str} {st : Stmt} {f : Addr} {fd : FuncData} {N ps : List Str} {k : Nat} {fs : List Bool} {G : GT} (F : Fun K x qual st f fd) (S : FnScope N ps (defScope st)) (hfs : fs.length = ps.length)
    (hbody : ∀ (cdv : Value) (A : Around) (outer : List Env) (s : Shared) (H : Hp) (E : XK) (as Ox : List Addr), Room k (A.deeper (envOfC qual (defScope st) s.heap.objs.size f cdv)) → ∀ ts q, ts.length = fs.length → G ts q →
      ∃ g, VSs (cxOf CX0 P w K mg base N qual (defScope st) f cdv A outer s H E).nox ⟨H, pz fs as 0, Ox⟩ (defBody st) g ∧ g { nx := fun ρ => q (fins fs ρ) (.vw .non), rt := fun ρ r => q (fins fs ρ) r } (en0 fs ts ++ List.replicate (N.length - ts.length) none)) :
    FnOk P w K mg base CX0 (k + 1) f fd ps (spOf K fs G) := by
  refine F.ok S (fun vs H Q E h => ?_) (fun cdv A outer s H vs Q E hr h => ?_)
  · obtain ⟨ts, as, Ox, q, _, _, _, ha, _⟩ := h
    rw [← hfs]; exact (args_len ha).2.1
  · obtain ⟨ts, as, Ox, q, nd, nx, ox, ha, hG, kk⟩ := h
    obtain ⟨l1, l2, l3, l4, l5⟩ := args_len ha
    obtain ⟨p1, p2⟩ := pz_ok 0 ha
    obtain ⟨g, hg, hq⟩ := hbody cdv A outer s H E as Ox hr ts q l1 hG
    have ea : av ⟨H, pz fs as 0, Ox⟩ (ro fs as ++ List.replicate (N.length - ts.length) none) = as ++ Ox := by unfold av; rw [roots_app, l5]
    have eavZ : ∀ H0 P (O : List (Option Addr)), av ⟨H0, P, Ox⟩ O = roots O ++ Ox := fun _ _ _ => rfl
    have I0 : EnvAt K ⟨H, pz fs as 0, Ox⟩ [] (ro fs as ++ List.replicate (N.length - ts.length) none) (en0 fs ts ++ List.replicate (N.length - ts.length) none) (start N vs) H := by
      refine ⟨?_, ?_, fun i e he => ?_, by rw [roots_app, l5]; exact nd, fun a h => ?_, fun p hp => ?_, ox, fun b o e _ => e, fun p hp => nomatch hp⟩
      · unfold L2.start; simp [l2, l4, l1]
      · simp [l3, l4]
      · rw [ea]
        by_cases hi : i < fs.length
        · rw [List.getElem?_append_left (by rw [l4]; exact hi)] at he
          obtain ⟨o, s, h1, h2, h3⟩ := args_env ha i e he
          refine ⟨o, s, by rw [List.getElem?_append_left (by rw [l3]; exact hi)]; exact h1, ?_, h3⟩
          unfold L2.start
          rw [List.getElem?_append_left (by rw [List.length_map, l2]; exact hi)]; exact h2
        · rw [List.getElem?_append_right (by omega), List.getElem?_replicate] at he
          split at he
          · rename_i hl
            cases he
            refine ⟨none, none, ?_, ?_, rfl⟩
            · rw [List.getElem?_append_right (by omega), List.getElem?_replicate, if_pos (by rw [l3]; rw [l4] at hl; exact hl)]
            · unfold L2.start
              rw [List.getElem?_append_right (by rw [List.length_map]; omega), List.getElem?_replicate, List.length_map, if_pos (by rw [l2]; rw [l4, l1] at hl; exact hl)]
          · cases he
      · rw [roots_app, l5] at h
        obtain ⟨t, r⟩ := args_root ha a h
        exact ⟨.inl (by show a ∈ (pz fs as 0).map (·.2); rw [p1]; exact h), nx a h, r.mut⟩
      · obtain ⟨_, e⟩ := p2 p hp
        rw [Nat.sub_zero] at e
        rw [List.getElem?_append_left (List.getElem?_eq_some_iff.mp e).1]; exact e
    have fin : ∀ {O : List (Option Addr)} {ρ : En} {σ : St} {H' : Hp} {Z' : Zc}, Z'.P = pz fs as 0 → EnvAt K Z' [] O ρ σ H' → Paired (fun a u => Root K H' (av Z' O) a u) as (fins fs ρ) := fun {O ρ σ H' Z'} eP I => by
      have := fins_ok (ρ := ρ) (R := fun a u => Root K H' (av Z' O) a u) 0 ha fun p hp => ?_
      · rw [List.drop_zero] at this; exact this
      · have e := I.par p (by rw [eP]; exact hp)
        have hl := (List.getElem?_eq_some_iff.mp e).1
        have hl' : p.1 < ρ.length := by rw [← I.lO]; exact hl
        obtain ⟨o, s', h1, h2, h3⟩ := I.sl p.1 ρ[p.1] (by simp)
        rw [e] at h1
        cases h1
        cases q : ρ[p.1] with
        | none => rw [q] at h3; cases h3
        | some tb =>
          obtain ⟨t, b⟩ := tb
          rw [q] at h3
          cases b with
          | false => cases h3.1
          | true =>
            obtain ⟨a', e1, _, r⟩ := h3
            cases e1
            exact ⟨t, by rw [← q]; simp, r⟩
    have keep : ∀ {O : List (Option Addr)} {ρ : En} {σ : St} {H' : Hp} {Z' : Zc}, Z'.H0 = H → Z'.P = pz fs as 0 → EnvAt K Z' [] O ρ σ H' → ∀ b o, H b = some o → b ∉ as → H' b = some o := fun e0 eP I b o e n => I.keep b o (by rw [e0]; exact e) (by rw [eP, p1]; exact n)
    have sub : ∀ {O : List (Option Addr)} {ρ : En} {σ : St} {H' : Hp} {Z' : Zc}, Z'.P = pz fs as 0 → EnvAt K Z' [] O ρ σ H' → ∀ a ∈ as, a ∈ roots O := fun eP I a h => by
      have : a ∈ (pz fs as 0).map (·.2) := by rw [p1]; exact h
      obtain ⟨p, hp, rfl⟩ := List.mem_map.mp this
      exact mem_roots.mpr (List.mem_of_getElem? (I.par p (by rw [eP]; exact hp)))
    refine ⟨_, hg [], _, _, _, I0, hq, ⟨fun O ρ σ H' I h => ?_, fun O ρ σ H' r v z h => ?_, fun _ _ _ _ _ h => h.elim, fun _ _ _ _ _ h => h.elim⟩⟩
    · have sb : ∀ a ∈ as ++ Ox, a ∈ av ⟨H, pz fs as 0, Ox⟩ O := fun a h => by
        rcases List.mem_append.mp h with h | h
        · exact List.mem_append_left _ (sub rfl I a h)
        · exact List.mem_append_right _ h
      exact kk _ _ h .non H' (keep rfl rfl I) ⟨at_non, Paired.mapP (fin rfl I) fun _ _ q => q.fewer sb⟩
    · cases r with
      | vw t =>
        obtain ⟨I, a⟩ := z
        have sb : ∀ a ∈ as ++ Ox, a ∈ av ⟨H, pz fs as 0, Ox⟩ O := fun a h => by
          rcases List.mem_append.mp h with h | h
          · exact List.mem_append_left _ (sub rfl I a h)
          · exact List.mem_append_right _ h
        exact kk _ _ h v H' (keep rfl rfl I) ⟨a.fewer sb, Paired.mapP (fin rfl I) fun _ _ q => q.fewer sb⟩
      | fr t =>
        obtain ⟨b, rfl, I, hR, h0, hx⟩ := z
        have sb : ∀ a ∈ b :: (as ++ Ox), a ∈ av (Zc.ex ⟨H, pz fs as 0, Ox⟩ b) O := fun a h => by
          rcases List.mem_cons.mp h with h | h
          · rw [h]; exact List.mem_append_right _ List.mem_cons_self
          · rcases List.mem_append.mp h with h | h
            · exact List.mem_append_left _ (sub rfl I a h)
            · exact List.mem_append_right _ (List.mem_cons_of_mem _ h)
        exact kk _ _ h (.ref b) H' (keep rfl rfl I) ⟨b, rfl, h0, fun hb => (I.own b (sub rfl I b hb)).2.1 List.mem_cons_self, hR.fewer sb, Paired.mapP (fin rfl I) fun _ _ q => q.fewer sb⟩
end
end VT
set_option Elab.async false
set_option linter.all false
set_option maxRecDepth 100000
set_option maxHeartbeats 4000000
namespace VT
open PySem PySem.Spec PyProof.Rows L2
def spP (K : PySem.W.Frag) (n : Nat) (G : List T → (Rt → Prop) → Prop) : Sp := spOf K (List.replicate n false) fun ts q => G ts (q [])
section
variable {K : PySem.W.Frag} {H : Hp} {A : List Addr}
theorem args_views : ∀ {n : Nat} {ts : List T} {vs : List V}, ts.length = n → AtL K H A ts vs → ArgsAt K H A (List.replicate n false) [] ts vs
  | 0, ts, vs, l, h => by
    have e : ts = [] := List.length_eq_zero_iff.mp l
    subst e
    simp only [AtL] at h
    exact ⟨rfl, rfl, h⟩
  | n + 1, ts, vs, l, h => by
    cases ts with
    | nil => simp at l
    | cons t ts =>
      simp only [AtL] at h
      obtain ⟨v, r, rfl, h1, h2⟩ := h
      exact ⟨t, ts, v, r, rfl, rfl, h1, args_views (by simpa using l) h2⟩
end
theorem EnvAt.newAt {K : PySem.W.Frag} {Z : Zc} {tm : List (T × V)} {O : List (Option Addr)} {ρ : En} {σ : St} {H H' : Hp} (I : EnvAt K Z tm O ρ σ H) {a : Addr} (h : H a = none) (s : Same H H') {u : HO} (hu : H' a = some u) : EnvAt K (Z.ex a) tm O ρ σ H' := by
  have J := I.same s
  obtain ⟨n1, n2, n3⟩ := I.fresh h
  have mr : ∀ b ∈ av (Z.ex a) O, b ∈ av Z O ∨ H b = none := fun b hb => (av_ex_sub b hb).imp id fun e => by rw [e]; exact h
  have fw : ∀ {t : T} {v : V}, At K H (av Z O) t v → At K H' (av (Z.ex a) O) t v := fun q => (q.more mr).same s
  refine ⟨J.lσ, J.lO, fun i e hi => ?_, J.nd, fun b hb => ?_, J.par, fun b hb => ?_, J.keep, fun p hp => fw (I.tmp p hp)⟩
  · obtain ⟨o, w, h1, h2, h3⟩ := I.sl i e hi
    refine ⟨o, w, h1, h2, h3.map (fun _ _ q => fw q) fun b t eo q => ?_⟩
    exact Root.same (q.map rfl fun _ _ z => z.more mr) s
  · obtain ⟨q1, q2, q3⟩ := J.own b hb
    refine ⟨q1, fun z => ?_, q3⟩
    rcases List.mem_cons.mp z with z | z
    · exact n1 (by rw [← z]; exact List.mem_append_left _ hb)
    · exact q2 z
  · rcases List.mem_cons.mp hb with z | z
    · rw [z, hu]; simp
    · exact J.ox b z
def fCallV (n : Nat) (g : FA) (G : List T → (Rt → Prop) → Prop) : FP := fun ρ Q => g ρ fun ts => ts.length = n ∧ G ts Q
section
variable {X : Cx} {Z : Zc} {k n : Nat} {f : Addr} {fd : FuncData} {ps : List Str} {G : List T → (Rt → Prop) → Prop} {x : Str} {p pos : Pos} {e : Expr} {es : List Expr} {g : FA}
theorem call_ok {tm : List (T × V)} {O : List (Option Addr)} {ρ : En} {σ : St} {H : Hp} {ts : List T} {vs : List V} {q : Rt → Prop} {Q : VK} (I : EnvAt X.K Z tm O ρ σ H) (a : AtL X.K H (av Z O) ts vs) (hn : ts.length = n) (hG : G ts q)
    (k : ∀ r, q r → ∀ v H', Same H H' → RetX X.K Z tm O ρ σ H' r v → Q v H') : spP X.K n G (vs ++ []) H Q E0 := by
  rw [List.append_nil]
  refine ⟨ts, [], av Z O, fun _ r => q r, List.nodup_nil, fun _ z => absurd z List.not_mem_nil, I.avH, args_views hn a, hG, fun us r hr v H' fr z => ?_⟩
  have s : Same H H' := fun b o e => fr b o e List.not_mem_nil
  cases r with
  | vw t => exact k _ hr v H' s ⟨I.same s, z.1⟩
  | fr t =>
    obtain ⟨b, rfl, hb, _, hR, _⟩ := z
    obtain ⟨n1, n2, n3⟩ := I.fresh hb
    obtain ⟨u, eu, _⟩ := hR.mut
    refine k _ hr _ H' s ⟨b, rfl, I.newAt hb s eu, hR.fewer fun c hc => ?_, n3, n2⟩
    rcases av_ex_sub c hc with z | z
    · exact List.mem_cons_of_mem _ z
    · rw [z]; exact List.mem_cons_self
theorem vp_call (F : FnOk X.prog X.w X.K X.mg X.base CX0 k f fd ps (spP X.K n G)) (hr : Room k X.A) (hg : Gl X x) (hm : X.mg x = some (.ref f)) (hk : PySem.W.keepIn X.K (.ref f) = true) (hb : Binds X.K fd ps []) (ha : VA X Z (e :: es) g)
    (hdb : (x == ("__debug__" : Str)) = false := by decide) (he : starEach (e :: es) X.env = (false, eval e X.env) :: starEach es X.env := by rfl) (hpl : (backTo pos (starEach es X.env)).any (·.1) = false := by rfl) :
    VP X Z (.Call (.Name x p) (e :: es) [] pos) (fCallV n g G) := .mk fun tm => PE.weak (pe_call F hr hg hm hk hb .nil pass0 (ha tm) hdb he hpl) fun σ H Q ⟨ρ, O, q, I, hf, k⟩ =>
  ⟨ρ, O, _, I, hf, fun ts hts vs H1 s1 a1 => call_ok (I.same s1) a1 hts.1 hts.2 fun r hr v H' s z => k r hr v H' (s1.trans s) z⟩
end
def AM (K : PySem.W.Frag) (H : Hp) (A : List Addr) (O : List (Option Addr)) (ρ : En) : List (Option Nat) → List T → List V → Prop
  | [], ts, vs => ts = [] ∧ vs = []
  | none :: ms, ts, vs => ∃ t ts' v vs', ts = t :: ts' ∧ vs = v :: vs' ∧ At K H A t v ∧ AM K H A O ρ ms ts' vs'
  | some k :: ms, ts, vs => ∃ a t ts' vs', ts = t :: ts' ∧ vs = .ref a :: vs' ∧ ρ[k]? = some (some (t, true)) ∧ O[k]? = some (some a) ∧ AM K H A O ρ ms ts' vs'
def lAM (X : Cx) (Z : Zc) (tm : List (T × V)) (ms : List (Option Nat)) (f : FA) : TA := fun σ H Q => ∃ ρ O q, EnvAt X.K Z tm O ρ σ H ∧ f ρ q ∧ ∀ ts, q ts → ∀ vs H', Same H H' → AM X.K H' (av Z O) O ρ ms ts vs → Q vs H'
def VAM (X : Cx) (Z : Zc) (es : List Expr) (ms : List (Option Nat)) (f : FA) : Prop := Bx fun tm => PA X es (lAM X Z tm ms f)
instance {X : Cx} {Z : Zc} {es : List Expr} {ms : List (Option Nat)} {f : FA} : CoeFun (VAM X Z es ms f) fun _ => ∀ tm, PA X es (lAM X Z tm ms f) := ⟨fun h => Bx.h h⟩
section
variable {X : Cx} {Z : Zc} {e : Expr} {es : List Expr} {g : FA}
end
def putK : List Nat → List T → En → En
  | k :: ks, u :: us, ρ => putK ks us (ρ.set k (some (u, true)))
  | _, _, ρ => ρ
section
variable {K : PySem.W.Frag} {H H' : Hp} {A : List Addr}
theorem AM.args {A' : List Addr} {O : List (Option Addr)} {ρ : En} (sub : ∀ a ∈ A', a ∈ A) (hr : ∀ (k : Nat) t, ρ[k]? = some (some (t, true)) → ∃ a, O[k]? = some (some a) ∧ Root K H A a t) : ∀ {ms : List (Option Nat)} {ts : List T} {vs : List V}, AM K H A O ρ ms ts vs →
    ∃ as, ArgsAt K H A' (ms.map Option.isSome) as ts vs ∧ Paired (fun a k => O[k]? = some (some a)) as (ms.filterMap id)
  | [], ts, vs, h => ⟨[], ⟨rfl, h.1, h.2⟩, .nil⟩
  | none :: ms, ts, vs, h => by
    obtain ⟨t, ts', v, vs', rfl, rfl, a, h⟩ := h
    obtain ⟨as, h1, h2⟩ := AM.args sub hr h
    exact ⟨as, ⟨t, ts', v, vs', rfl, rfl, a.fewer sub, h1⟩, h2⟩
  | some k :: ms, ts, vs, h => by
    obtain ⟨a, t, ts', vs', rfl, rfl, e0, e1, h⟩ := h
    obtain ⟨as, h1, h2⟩ := AM.args sub hr h
    obtain ⟨a', e2, r⟩ := hr k t e0
    rw [e1] at e2
    cases e2
    exact ⟨a :: as, ⟨a, as, t, ts', vs', rfl, rfl, rfl, r.fewer sub, h1⟩, .cons e1 h2⟩
end
section
variable {X : Cx} {Z : Zc} {k : Nat} {f : Addr} {fd : FuncData} {ps : List Str} {fs : List Bool} {G : GT} {x : Str} {p pos : Pos} {e : Expr} {es : List Expr} {g : FA} {ms : List (Option Nat)}
theorem inj_O {K : PySem.W.Frag} {tm : List (T × V)} {O : List (Option Addr)} {ρ : En} {σ : St} {H : Hp} (I : EnvAt K Z tm O ρ σ H) {i j : Nat} {a : Addr} (h1 : O[i]? = some (some a)) (h2 : O[j]? = some (some a)) : i = j := by
  have key : ∀ (O : List (Option Addr)) (i j : Nat), i < j → O[i]? = some (some a) → O[j]? = some (some a) → (roots O).Nodup → False := by
    intro O
    induction O with
    | nil => intro i j _ h; simp at h
    | cons o O ih =>
      intro i j hij e1 e2 nd
      cases j with
      | zero => omega
      | succ j =>
        have e2' : O[j]? = some (some a) := by simpa using e2
        cases i with
        | zero =>
          have : o = some a := by simpa using e1
          subst this
          simp only [roots, List.filterMap_cons, id] at nd
          exact (List.nodup_cons.mp nd).1 (mem_roots.mpr (List.mem_of_getElem? e2'))
        | succ i =>
          refine ih i j (by omega) (by simpa using e1) e2' ?_
          cases o with
          | none => simpa [roots] using nd
          | some b => simp only [roots, List.filterMap_cons, id] at nd; exact (List.nodup_cons.mp nd).2
  rcases Nat.lt_trichotomy i j with l | l | l
  · exact (key O i j l h1 h2 I.nd).elim
  · exact l
  · exact (key O j i l h2 h1 I.nd).elim
theorem paired_getL {α β : Type} {F : α → β → Prop} : ∀ {l₁ : List α} {l₂ : List β} {i : Nat} {a : α}, Paired F l₁ l₂ → l₁[i]? = some a → ∃ b, l₂[i]? = some b ∧ F a b
  | _, _, _, _, .nil, e => by simp at e
  | _, _, 0, _, .cons r _, e => by simp at e; subst e; exact ⟨_, rfl, r⟩
  | _, _, i + 1, b, .cons _ t, e => by
    obtain ⟨a, h1, h2⟩ := paired_getL (i := i) (a := b) t (by simpa using e)
    exact ⟨a, by simpa using h1, h2⟩
end
end VT
set_option Elab.async false
set_option linter.all false
set_option maxRecDepth 100000
set_option maxHeartbeats 4000000
namespace VT
open PySem PySem.Spec PyProof.Rows L2
section
variable (K : PySem.W.Frag)
theorem kit_int_int : PySem.W.kitOne K (.type "int") (.type "int") = some true := by kernel_rfl
theorem kit_int_bool : PySem.W.kitOne K (.type "int") (.type "bool") = some false := by kernel_rfl
theorem kit_int_str : PySem.W.kitOne K (.type "int") (.type "str") = some false := by kernel_rfl
theorem kit_bool_int : PySem.W.kitOne K (.type "bool") (.type "int") = some true := by kernel_rfl
theorem kit_bool_bool : PySem.W.kitOne K (.type "bool") (.type "bool") = some true := by kernel_rfl
theorem kit_bool_str : PySem.W.kitOne K (.type "bool") (.type "str") = some false := by kernel_rfl
theorem kit_str_int : PySem.W.kitOne K (.type "str") (.type "int") = some false := by kernel_rfl
theorem kit_str_bool : PySem.W.kitOne K (.type "str") (.type "bool") = some false := by kernel_rfl
theorem kit_str_str : PySem.W.kitOne K (.type "str") (.type "str") = some true := by kernel_rfl
theorem kit_list_int : PySem.W.kitOne K (.type "list") (.type "int") = some false := by kernel_rfl
theorem kit_list_bool : PySem.W.kitOne K (.type "list") (.type "bool") = some false := by kernel_rfl
theorem kit_list_str : PySem.W.kitOne K (.type "list") (.type "str") = some false := by kernel_rfl
theorem kit_tuple_int : PySem.W.kitOne K (.type "tuple") (.type "int") = some false := by kernel_rfl
theorem kit_tuple_bool : PySem.W.kitOne K (.type "tuple") (.type "bool") = some false := by kernel_rfl
theorem kit_tuple_str : PySem.W.kitOne K (.type "tuple") (.type "str") = some false := by kernel_rfl
theorem kit_dict_int : PySem.W.kitOne K (.type "dict") (.type "int") = some false := by kernel_rfl
theorem kit_dict_bool : PySem.W.kitOne K (.type "dict") (.type "bool") = some false := by kernel_rfl
theorem kit_dict_str : PySem.W.kitOne K (.type "dict") (.type "str") = some false := by kernel_rfl
theorem kit_NoneType_int : PySem.W.kitOne K (.type "NoneType") (.type "int") = some false := by kernel_rfl
theorem kit_NoneType_bool : PySem.W.kitOne K (.type "NoneType") (.type "bool") = some false := by kernel_rfl
theorem kit_NoneType_str : PySem.W.kitOne K (.type "NoneType") (.type "str") = some false := by kernel_rfl
end
def Ty2 (K : PySem.W.Frag) (H : Hp) : V → String → Prop
  | .non, t => t = "NoneType"
  | .bl _, t => t = "bool"
  | .int _, t => t = "int"
  | .str _, t => t = "str"
  | .ref a, t => (t = "list" ∧ ∃ xs, SqL K H a xs) ∨ (t = "tuple" ∧ ∃ xs, SqT K H a xs) ∨ (t = "dict" ∧ ∃ kvs, H a = some (.dK kvs))
  | _, _ => False
def rInst (K : PySem.W.Frag) : List V → Hp → VK → Prop := fun xs H Q => ∃ x n t b, xs = [x, .ty n] ∧ Ty2 K H x t ∧ PySem.W.kitOne K (.type t) (.type n) = some b ∧ Q (.bl b) H
theorem call_inst {X : Cx} : CallR X (.builtin "isinstance") (rInst X.K) := by
  intro pins s σ H xs us Q I r h
  obtain ⟨x, n, t, b, rfl, ty, e, q⟩ := h
  obtain ⟨u, w', rfl, rx, ry⟩ := vals2 r
  obtain rfl : w' = Value.type n := ry
  have fin : ∀ tk, EP X pins σ Q (.bool b) { s with toks := tk } := fun tk => ⟨.bl b, H, I.tok _, rfl, q⟩
  cases x with
  | non => cases (show t = _ from ty); cases (show u = Value.none from rx); exact PySem.W.kia_one PySem.W.kitx_none I.kIn True.intro e (fun z => nomatch z) fin
  | bl y => cases (show t = _ from ty); cases (show u = Value.bool y from rx); exact PySem.W.kia_one PySem.W.kitx_bool I.kIn True.intro e (fun z => nomatch z) fin
  | int i => cases (show t = _ from ty); obtain ⟨t, q⟩ := (show ∃ t, u = Value.int i t from rx); cases q; exact PySem.W.kia_one PySem.W.kitx_int I.kIn True.intro e (fun z => nomatch z) fin
  | str y => cases (show t = _ from ty); obtain ⟨t, q⟩ := (show ∃ t, u = Value.str y t from rx); cases q; exact PySem.W.kia_one PySem.W.kitx_str I.kIn True.intro e (fun z => nomatch z) fin
  | ref a =>
    cases (show u = Value.ref a from rx)
    rcases ty with ⟨rfl, xs, hq⟩ | ⟨rfl, xs, hq⟩ | ⟨rfl, kvs, hq⟩
    · obtain ⟨its, _, p, _⟩ := I.list hq
      obtain ⟨o, n', h1, h2, _⟩ := p
      exact PySem.W.kia_one PySem.W.kitx_list I.kIn ⟨o, h1, h2⟩ e (fun z => nomatch z) fin
    · obtain ⟨its, _, p, _⟩ := I.tuple hq
      obtain ⟨o, h1, h2, _⟩ := p
      exact PySem.W.kia_one PySem.W.kitx_tuple I.kIn ⟨o, h1, h2⟩ e (fun z => nomatch z) fin
    · obtain ⟨_, _, vs, _, p⟩ := (show ObjOk X.prog X.w H s.heap a (.dK kvs) from I.hok a _ hq)
      obtain ⟨o, es, ep, h1, h2, _⟩ := p
      exact PySem.W.kia_one PySem.W.kitx_dict I.kIn ⟨o, h1, h2.1⟩ e (fun z => nomatch z) fin
  | _ => exact (show False from ty).elim
def isInt : T → Bool
  | .int _ => true
  | .bl _ => true
  | _ => false
def isBool : T → Bool
  | .bl _ => true
  | _ => false
def isStr : T → Bool
  | .str _ => true
  | _ => false
def isList : T → Bool
  | .lst _ => true
  | _ => false
def known : T → Bool
  | .dt _ _ => false
  | .df _ _ _ => false
  | .ins _ _ _ => false
  | .pin _ _ => false
  | .ob _ => false
  | .ty _ => false
  | _ => true
def InstOk (K : PySem.W.Frag) (n : String) (p : T → Bool) : Prop := ∀ H A t v, known t = true → AtR K H A t v → ∃ ty, Ty2 K H v ty ∧ PySem.W.kitOne K (.type ty) (.type n) = some (p t)
theorem inst_int {K : PySem.W.Frag} : InstOk K "int" isInt := by
  intro H A t v hk h
  cases t with
  | non => rw [h.non]; exact ⟨_, rfl, kit_NoneType_int K⟩
  | bl b => rw [h.bl]; exact ⟨_, rfl, kit_bool_int K⟩
  | int b => rw [h.int]; exact ⟨_, rfl, kit_int_int K⟩
  | str b => rw [h.str]; exact ⟨_, rfl, kit_str_int K⟩
  | tup l => obtain ⟨a, vs, rfl, q, _⟩ := h.tup; exact ⟨_, .inr (.inl ⟨rfl, _, q⟩), kit_tuple_int K⟩
  | lst l => obtain ⟨a, vs, rfl, q, _⟩ := h.lst; exact ⟨_, .inl ⟨rfl, _, q⟩, kit_list_int K⟩
  | dk ks l => obtain ⟨a, vs, rfl, _, q, _⟩ := h.dk; exact ⟨_, .inr (.inr ⟨rfl, _, q⟩), kit_dict_int K⟩
  | ob _ => simp only [known] at hk; cases hk
  | dt _ _ => simp only [known] at hk; cases hk
  | df _ _ _ => simp only [known] at hk; cases hk
  | ins _ _ _ => simp only [known] at hk; cases hk
  | pin _ _ => simp only [known] at hk; cases hk
  | ty _ => simp only [known] at hk; cases hk
theorem inst_bool {K : PySem.W.Frag} : InstOk K "bool" isBool := by
  intro H A t v hk h
  cases t with
  | non => rw [h.non]; exact ⟨_, rfl, kit_NoneType_bool K⟩
  | bl b => rw [h.bl]; exact ⟨_, rfl, kit_bool_bool K⟩
  | int b => rw [h.int]; exact ⟨_, rfl, kit_int_bool K⟩
  | str b => rw [h.str]; exact ⟨_, rfl, kit_str_bool K⟩
  | tup l => obtain ⟨a, vs, rfl, q, _⟩ := h.tup; exact ⟨_, .inr (.inl ⟨rfl, _, q⟩), kit_tuple_bool K⟩
  | lst l => obtain ⟨a, vs, rfl, q, _⟩ := h.lst; exact ⟨_, .inl ⟨rfl, _, q⟩, kit_list_bool K⟩
  | dk ks l => obtain ⟨a, vs, rfl, _, q, _⟩ := h.dk; exact ⟨_, .inr (.inr ⟨rfl, _, q⟩), kit_dict_bool K⟩
  | ob _ => simp only [known] at hk; cases hk
  | dt _ _ => simp only [known] at hk; cases hk
  | df _ _ _ => simp only [known] at hk; cases hk
  | ins _ _ _ => simp only [known] at hk; cases hk
  | pin _ _ => simp only [known] at hk; cases hk
  | ty _ => simp only [known] at hk; cases hk
theorem inst_str {K : PySem.W.Frag} : InstOk K "str" isStr := by
  intro H A t v hk h
  cases t with
  | non => rw [h.non]; exact ⟨_, rfl, kit_NoneType_str K⟩
  | bl b => rw [h.bl]; exact ⟨_, rfl, kit_bool_str K⟩
  | int b => rw [h.int]; exact ⟨_, rfl, kit_int_str K⟩
  | str b => rw [h.str]; exact ⟨_, rfl, kit_str_str K⟩
  | tup l => obtain ⟨a, vs, rfl, q, _⟩ := h.tup; exact ⟨_, .inr (.inl ⟨rfl, _, q⟩), kit_tuple_str K⟩
  | lst l => obtain ⟨a, vs, rfl, q, _⟩ := h.lst; exact ⟨_, .inl ⟨rfl, _, q⟩, kit_list_str K⟩
  | dk ks l => obtain ⟨a, vs, rfl, _, q, _⟩ := h.dk; exact ⟨_, .inr (.inr ⟨rfl, _, q⟩), kit_dict_str K⟩
  | ob _ => simp only [known] at hk; cases hk
  | dt _ _ => simp only [known] at hk; cases hk
  | df _ _ _ => simp only [known] at hk; cases hk
  | ins _ _ _ => simp only [known] at hk; cases hk
  | pin _ _ => simp only [known] at hk; cases hk
  | ty _ => simp only [known] at hk; cases hk
def fInst (f : FE) (p : T → Bool) : FP := fun ρ Q => f ρ fun t => known t = true ∧ Q (.vw (.bl (p t)))
section
variable {X : Cx} {Z : Zc} {e a b c : Expr} {es : List Expr} {pos p p2 : Pos} {fa fb fcc : FE}
theorem b_isinstance : bootBuiltins "isinstance" = some (.builtin "isinstance") := by decide +kernel
theorem vp_inst {n : String} {y : Str} {q : T → Bool} (hq : InstOk X.K n q) (hg : Gl X "isinstance") (hm : X.mg "isinstance" = none) (hgy : Gl X y) (hmy : X.mg y = none) (hby : bootBuiltins y = some (.type n)) (ha : VR X Z e fa)
    (hny : y ≠ "__name__" := by decide) (hdy : (y == ("__debug__" : Str)) = false := by decide)
    (hs : starEach [e, .Name y p2] X.env = (false, eval e X.env) :: starEach [.Name y p2] X.env := by rfl) (hs2 : starEach [.Name y p2] X.env = (false, eval (.Name y p2) X.env) :: starEach [] X.env := by rfl) (hpl : (backTo pos (starEach [.Name y p2] X.env)).any (·.1) = false := by rfl) :
    VP X Z (.Call (.Name "isinstance" p) [e, .Name y p2] [] pos) (fInst fa q) := .mk fun tm =>
  PE.weak (pe_callB call_inst hg hm b_isinstance (pa_cons (ha tm) (pa_cons (pe_bltn (v := .ty n) hgy hmy hby rfl hny hdy) pa_nil hs2) hs) (by decide) (by decide) hs hpl) fun σ H Q ⟨ρ, O, q', I, hf, k⟩ => ⟨ρ, O, _, I, hf, fun t ht v H1 s1 a1 => by
    obtain ⟨ty, h1, h2⟩ := hq H1 _ t v ht.1 a1
    exact ⟨v, n, ty, _, rfl, h1, h2, k _ ht.2 _ H1 s1 ⟨I.same s1, at_bl⟩⟩⟩
def isNon : T → Bool
  | .non => true
  | _ => false
def pIs (x y : T) (q : Rt → Prop) : Prop := match y with
  | .non => q (.vw (.bl (isNon x)))
  | _ => False
theorem non_iff {K : PySem.W.Frag} {H : Hp} {A : List Addr} {t : T} {v : V} (h : AtR K H A t v) : decide (v = .non) = isNon t := by
  cases t with
  | non => rw [h.non]; rfl
  | bl b => rw [h.bl]; rfl
  | int b => rw [h.int]; rfl
  | str b => rw [h.str]; rfl
  | ob b => rw [h.ob]; rfl
  | ty b =>
    have : v = .ty b := h.elim (fun q => by simpa only [At] using q) fun ⟨_, _, q⟩ => q.elim
    rw [this]; rfl
  | tup l => obtain ⟨a, vs, rfl, _⟩ := h.tup; rfl
  | lst l => obtain ⟨a, vs, rfl, _⟩ := h.lst; rfl
  | dk ks l => obtain ⟨a, vs, rfl, _⟩ := h.dk; rfl
  | dt ks l => obtain ⟨a, vs, rfl, _⟩ := h.dt; rfl
  | df o ks l => obtain ⟨a, vs, rfl, _⟩ := h.df; rfl
  | ins C ns l => obtain ⟨a, dx, vs, rfl, _⟩ := h.ins; rfl
  | pin a t =>
    have e : v = .ref a := h.elim (fun q => by simp only [At] at q; exact q.1) fun ⟨_, _, q⟩ => q.elim
    rw [e]; rfl
theorem opT_is {K : PySem.W.Frag} : OpT K (fun x y H Q => y = .non ∧ Q (.bl (decide (x = .non))) H) pIs := by
  intro Z tm O ρ σ H x y v w q Q I h1 h2 h k
  unfold pIs at h
  split at h
  · exact ⟨h2.non, k _ h _ H (Same.refl H) ⟨I, by rw [non_iff h1]; exact at_bl⟩⟩
  · exact h.elim
theorem vp_is (ha : VR X Z a fa) (hb : VR X Z b fb) : VP X Z (.Compare a [.Is] [b] pos) (f2 fa fb pIs) := vp_cmp op_isN opT_is ha hb (nomark _)
theorem vc_is (ha : VR X Z a fa) (hb : VR X Z b fb) : VC X Z (.Compare a [.Is] [b] pos) (fTst (f2 fa fb pIs)) := vc_cmp op_isN opT_is ha hb (nomark _)
end
end VT
set_option Elab.async false
set_option linter.all false
set_option maxRecDepth 100000
set_option maxHeartbeats 4000000
namespace VT
open PySem PySem.Spec PyProof.Rows L2
structure Df (K : PySem.W.Frag) (mg : Str → Option Value) (x : Str) (st : Stmt) (ps : List Str) (f : Addr) (fd : FuncData) : Prop where
  F : Fun K x x st f fd
  m : mg x = some (.ref f)
  b : Binds K fd ps []
def Cal (P : Program) (w : World) (K : PySem.W.Frag) (mg : Str → Option Value) (base : Heap) (x : Str) (ps : List Str) (k : Nat) (sp : Sp) : Prop :=
  ∃ f fd, mg x = some (.ref f) ∧ PySem.W.keepIn K (.ref f) = true ∧ Binds K fd ps [] ∧ FnOk P w K mg base CX0 k f fd ps sp
theorem Df.cal {P : Program} {w : World} {K : PySem.W.Frag} {mg : Str → Option Value} {base : Heap} {x : Str} {st : Stmt} {ps : List Str} {f : Addr} {fd : FuncData} {k : Nat} {sp : Sp} (D : Df K mg x st ps f fd) (F : FnOk P w K mg base CX0 k f fd ps sp) : Cal P w K mg base x ps k sp :=
  ⟨f, fd, D.m, D.F.kp, D.b, F⟩
theorem np0 {H : Hp} {Ox : List Addr} {i : Nat} : NotPar ⟨H, [], Ox⟩ i := fun _ z => nomatch z
section
variable {P : Program} {w : World} {K : PySem.W.Frag} {mg : Str → Option Value} {base : Heap}
theorem fnP {x qual : Str} {st : Stmt} {f : Addr} {fd : FuncData} {N ps : List Str} {k n : Nat} {G : List T → (Rt → Prop) → Prop} (F : Fun K x qual st f fd) (S : FnScope N ps (defScope st)) (hn : n = ps.length)
    (hbody : ∀ (cdv : Value) (A : Around) (outer : List Env) (s : Shared) (H : Hp) (E : XK) (Ox : List Addr), Room k (A.deeper (envOfC qual (defScope st) s.heap.objs.size f cdv)) → ∀ ts q, G ts q →
      ∃ g, VSs (cxOf CX0 P w K mg base N qual (defScope st) f cdv A outer s H E).nox ⟨H, [], Ox⟩ (defBody st) g ∧ (ts.length = n → g { nx := fun _ => q (.vw .non), rt := fun _ r => q r } (ts.map (fun t => some (t, false)) ++ List.replicate (N.length - ts.length) none))) :
    FnOk P w K mg base CX0 (k + 1) f fd ps (spP K n G) := by
  have hp : ∀ n (as : List Addr) k, pz (List.replicate n false) as k = [] := by
    intro n
    induction n with
    | zero => intro as k; rfl
    | succ n ih => intro as k; exact ih as (k + 1)
  have hfi : ∀ n (ρ : En), fins (List.replicate n false) ρ = [] := by
    intro n
    induction n with
    | zero => intro ρ; rfl
    | succ n ih => intro ρ; exact ih ρ.tail
  have he : ∀ n (ts : List T), ts.length = n → en0 (List.replicate n false) ts = ts.map fun t => some (t, false) := by
    intro n
    induction n with
    | zero => intro ts e; cases ts <;> simp_all [en0]
    | succ n ih =>
      intro ts e
      cases ts with
      | nil => simp at e
      | cons t ts => rw [List.replicate_succ, en0, ih ts (by simpa using e)]; rfl
  refine fnV F S (by rw [List.length_replicate]; exact hn) fun cdv A outer s H E as Ox hr ts q hl hG => ?_
  rw [List.length_replicate] at hl
  obtain ⟨g, h1, h2⟩ := hbody cdv A outer s H E Ox hr ts (q []) hG
  refine ⟨g, by rw [hp]; exact h1, ?_⟩
  rw [he n ts hl]
  simp only [hfi]
  exact h2 hl
end
theorem Room.u101 {k : Nat} {A : Around} (r : Room k A) : A.units + 101 < cLine := by have := r.un; omega
theorem b_list : bootBuiltins "list" = some (.type "list") := by decide +kernel
theorem b_int : bootBuiltins "int" = some (.type "int") := by decide +kernel
theorem b_bool : bootBuiltins "bool" = some (.type "bool") := by decide +kernel
theorem b_str : bootBuiltins "str" = some (.type "str") := by decide +kernel
end VT
namespace VT
open PySem PySem.Spec PyProof.Rows L2
theorem rangeT_len (lo : Int) (n : Nat) : (rangeT lo n).length = n := by unfold rangeT; rw [List.length_map, List.length_range]
theorem rangeT_get {lo : Int} {n i : Nat} {t : T} (h : (rangeT lo n)[i]? = some t) : i < n ∧ t = .int (lo + (i : Int)) := by
  unfold rangeT at h
  rw [List.getElem?_map] at h
  cases e : (List.range n)[i]? with
  | none => rw [e] at h; cases h
  | some j =>
    rw [e] at h
    obtain ⟨h1, h2⟩ := List.getElem?_eq_some_iff.mp e
    rw [List.getElem_range] at h2
    rw [List.length_range] at h1
    subst h2
    cases h
    exact ⟨h1, rfl⟩
theorem loop_range {lo : Int} {n : Nat} {h : FG} {g : FS} {d : VEn} {ρ : En} (Pv : Nat → En → Prop) (h0 : Pv 0 ρ) (hs : ∀ (i : Nat) ρ', i < n → Pv i ρ' → h (.int (lo + (i : Int))) ρ' fun ρ2 => g { nx := Pv (i + 1), ct := Pv (i + 1), bk := d.nx, rt := d.rt } ρ2)
    (hd : ∀ ρ', Pv n ρ' → d.nx ρ') : LoopW (rangeT lo n) h g d ρ := ⟨Pv, h0, fun i t ρ' e p => by obtain ⟨h1, rfl⟩ := rangeT_get e; exact hs i ρ' h1 p, fun ρ' p => hd ρ' (by rw [rangeT_len] at p; exact p)⟩
theorem loop_map {α : Type} {f : α → T} {xs : List α} {h : FG} {g : FS} {d : VEn} {ρ : En} (Pv : Nat → En → Prop) (h0 : Pv 0 ρ) (hs : ∀ (i : Nat) x ρ', xs[i]? = some x → Pv i ρ' → h (f x) ρ' fun ρ2 => g { nx := Pv (i + 1), ct := Pv (i + 1), bk := d.nx, rt := d.rt } ρ2)
    (hd : ∀ ρ', Pv xs.length ρ' → d.nx ρ') : LoopW (xs.map f) h g d ρ := ⟨Pv, h0, fun i t ρ' e p => by
      rw [List.getElem?_map] at e
      cases q : xs[i]? with
      | none => rw [q] at e; cases e
      | some x => rw [q] at e; cases e; exact hs i x ρ' q p, fun ρ' p => hd ρ' (by rw [List.length_map] at p; exact p)⟩
theorem iteD {c A B : Prop} [Decidable c] (h1 : c → A) (h2 : ¬ c → B) : if decide c = true then A else B := by
  by_cases h : c
  · rw [if_pos (decide_eq_true h)]; exact h1 h
  · rw [if_neg (by rw [decide_eq_false h]; exact Bool.false_ne_true)]; exact h2 h
end VT
set_option Elab.async false
set_option linter.all false
set_option maxRecDepth 100000
set_option maxHeartbeats 4000000
namespace VT
open PySem PySem.Spec PyProof.Rows L2
section
variable {prog : Program} {w : World} {A : Around} {E : Value → Shared → Prop} {s : Shared}
end
section
variable {prog : Program} {w : World} {A : Around} {E : Value → Shared → Prop} {s : Shared} {z TI TO i1 i2 : Addr} {fp1 fp2 : List Addr} {n1 n2 : Nat} {P1 P2 : Nat → Value → Prop} {S1 S2 : Nat → Heap → Prop}
end
end VT
set_option Elab.async false
set_option linter.all false
set_option maxRecDepth 100000
set_option maxHeartbeats 4000000
set_option exponentiation.threshold 4000
namespace VT
open PySem PySem.Spec PyProof.Rows L2
def Big (i : Int) : Prop := i.natAbs < 2 ^ 2000
theorem Big.of {i : Int} (h1 : -(10 ^ 200) ≤ i) (h2 : i ≤ 10 ^ 200) : Big i := by
  unfold Big
  have e : (10 : Nat) ^ 200 < 2 ^ 2000 := by decide
  have : i.natAbs ≤ 10 ^ 200 := by
    have e2 : ((10 ^ 200 : Nat) : Int) = (10 : Int) ^ 200 := by rw [Int.natCast_pow]; rfl
    generalize (10 : Nat) ^ 200 = m at *
    rw [← e2] at h1 h2
    omega
  exact Nat.lt_of_le_of_lt this e
section
variable {X : Cx}
end
section
variable {X : Cx} {Z : Zc} {a b : Expr} {fa fb : FE} {pos : Pos}
end
end VT
set_option Elab.async false
set_option linter.all false
set_option maxRecDepth 100000
set_option maxHeartbeats 4000000
namespace VT
open PySem PySem.Spec PyProof.Rows L2
section
variable {prog : Program} {w : World} {A : Around} {E : Value → Shared → Prop} {s : Shared}
end
section
variable {X : Cx} {pins : List (Addr × Obj)} {σ : St} {H H' : Hp} {s : Shared} {h' : Heap}
end
end VT
set_option Elab.async false
set_option linter.all false
set_option maxRecDepth 100000
set_option maxHeartbeats 4000000
namespace VT
open PySem PySem.Spec PyProof.Rows L2
theorem nn {a b : Nat} (h : a < b) : a ≠ b := Nat.ne_of_lt h
section
variable {X : Cx} {Z : Zc}
end
end VT
set_option Elab.async false
set_option linter.all false
set_option maxRecDepth 100000
set_option maxHeartbeats 4000000
namespace Gen
open PySem L2 VT
open K01 (letters)
theorem small {n : Nat} (h : n ≤ 1000) : n ≤ sizeLine := Nat.le_of_lt (small1000 h)
def letC (n : Int) : Nat := letters.cps.toList.getD (n % 26).toNat 0
theorem letters_len : letters.cps.toList.length = 26 := by decide +kernel
theorem letters_len' : letters.length = 26 := by decide +kernel
theorem letters_small : letters.length ≤ sizeLine := by rw [letters_len', sizeLine_eq]; decide
theorem letter_at (n : Int) : atI letters.cps.toList (n % 26) = some (letC n) := by
  have h0 : 0 ≤ n % 26 := Int.emod_nonneg n (by decide)
  have h1 : n % 26 < 26 := Int.emod_lt_of_pos n (by decide)
  unfold letC
  obtain ⟨j, hj⟩ := Int.eq_ofNat_of_zero_le h0
  rw [hj]
  have hlt : j < letters.cps.toList.length := by rw [letters_len]; omega
  refine atI_nat ?_
  rw [Int.toNat_natCast, List.getD, List.getElem?_eq_getElem hlt]
  rfl
def c12 (c : Int) : Int := c % 1000000000000
def szN (c : Int) : Nat := (1 + c12 c % 7).toNat
def atN (c : Int) : Nat := (c12 c / 7 % (szN c : Int)).toNat
def numJ (c : Int) (k j : Nat) : Int := c12 c / 49 / ((j : Int) + 1) + (j : Int) * (j : Int) + (if j = atN c then (k : Int) else 0)
def wordK (c : Int) (k n : Nat) : Str := ⟨((List.range n).map fun j => letC (numJ c k j)).toArray⟩
def wordsL (c : Int) (m : Nat) : List Str :=
  if c12 c / 49 % 3 = 1 then ((List.range m).map fun k => wordK c k (szN c)).set 1 (wordK c 0 (szN c) ++ ⟨#[letC (c12 c / 147)]⟩) else (List.range m).map fun k => wordK c k (szN c)
theorem sz_eq (c : Int) : ((szN c : Nat) : Int) = 1 + c12 c % 7 := by
  unfold szN
  have : 0 ≤ c12 c % 7 := Int.emod_nonneg _ (by decide)
  omega
theorem sz_pos (c : Int) : 1 ≤ szN c ∧ szN c ≤ 7 := by
  have := sz_eq c
  have h0 : 0 ≤ c12 c % 7 := Int.emod_nonneg _ (by decide)
  have h1 : c12 c % 7 < 7 := Int.emod_lt_of_pos _ (by decide)
  omega
theorem at_eq (c : Int) : ((atN c : Nat) : Int) = c12 c / 7 % (szN c : Int) := by
  unfold atN
  have h := sz_pos c
  have : 0 ≤ c12 c / 7 % (szN c : Int) := Int.emod_nonneg _ (by omega)
  omega
theorem wordK_succ (c : Int) (k n : Nat) : wordK c k (n + 1) = wordK c k n ++ ⟨#[letC (numJ c k n)]⟩ := by
  unfold wordK
  rw [List.range_succ, List.map_append]
  show _ = Str.mk (_ ++ _)
  congr 1
  simp
theorem wordK_len (c : Int) (k n : Nat) : (wordK c k n).length = n := by
  unfold wordK Str.length
  simp
theorem wordsL_len (c : Int) (m : Nat) : (wordsL c m).length = m := by
  unfold wordsL
  split <;> simp
theorem ten12 : (10 : Int) ^ (12 : Int).toNat = 1000000000000 := by decide +kernel
end Gen
set_option Elab.async false
set_option linter.all false
set_option maxRecDepth 100000
set_option maxHeartbeats 4000000
namespace Gen
open PySem L2 VT
theorem plains_map {α : Type} {f : α → T} (h : ∀ x, plainT (f x) = true) : ∀ l : List α, plainTs (l.map f) = true
  | [] => by simp [plainTs]
  | x :: l => by simp only [List.map_cons, plainTs, h x, plains_map h l, Bool.and_self]
theorem deps_map {α : Type} {f : α → T} {n : Nat} (h : ∀ x, dep (f x) ≤ n) : ∀ l : List α, deps (l.map f) ≤ n
  | [] => by simp [deps]
  | x :: l => by have := h x; have := deps_map h l; simp only [List.map_cons, deps]; omega
end Gen
set_option Elab.async false
set_option linter.all false
set_option maxRecDepth 100000
set_option maxHeartbeats 4000000
namespace GenV
open PySem L2 VT Gen
open K01 (letters)
def top (i : Nat) : Stmt := PySem.Challenge.pw_slicewise_k20_holds_and_keeps.main.body.getD i (.Pass ⟨0, 0, 0, 0⟩)
abbrev s_cell_at : Stmt := top 6
abbrev s_words : Stmt := top 7
structure MgG (mg : Str → Option Value) : Prop where
  len : mg "len" = none
  range : mg "range" = none
  tuple : mg "tuple" = none
  sum : mg "sum" = none
def gCell (ts : List T) (q : Rt → Prop) : Prop := ∃ (ns : List Int) (j : Nat), ts = [.lst (ns.map .int), .int (j : Int)] ∧ q (.vw (.int (ns.getD j 0)))
def gWords (ts : List T) (q : Rt → Prop) : Prop := ∃ (c : Int) (m : Nat), ts = [.int c, .int (m : Int)] ∧ 2 ≤ m ∧ m ≤ 20 ∧ q (.fr (.lst ((wordsL c m).map .str)))
section
variable {P : Program} {w : World} {K : PySem.W.Frag} {mg : Str → Option Value} {base : Heap}
abbrev n_cell_at : List Str := ["_law_script", "_law_k"]
theorem sc_cell_at : FnScope n_cell_at ["_law_script", "_law_k"] (defScope s_cell_at) := ⟨rfl, rfl, rfl, by decide +kernel, rfl, by decide +kernel, by decide +kernel⟩
theorem ok_cell_at {f : Addr} {fd : FuncData} (D : Df K mg "_law_cell_at" s_cell_at ["_law_script", "_law_k"] f fd) (M : MgG mg) : Cal P w K mg base "_law_cell_at" ["_law_script", "_law_k"] 1 (spP K 2 gCell) := by
  refine D.cal (fnP D.F sc_cell_at rfl fun cdv A outer s H E Ox hr ts q hG => ?_)
  have nd := sc_cell_at.nd
  have hu := Room.u101 hr
  have np : ∀ {i : Nat}, NotPar ⟨H, [], Ox⟩ i := np0
  have npf : ∀ {is : List Nat}, ∀ i ∈ is, NotPar ⟨H, [], Ox⟩ i := fun i _ => np0
  refine ⟨_, (vss_cons (vs_if (vc_lt (vr_var 1) (VP.vr (vp_callB call_lenU callT_len (by rfl) M.len PySem.boot_len (var_cons (vr_var 0) var_nil))))
        (vss_one (vs_ret (VP.vx (vp_ix (vr_var 0) (vr_var 1)))))
        vss_nil)
      (vss_one (vs_ret (VP.vx vp_int)))), fun _ => ?_⟩
  obtain ⟨ns, j, rfl, hq⟩ := hG
  refine ite2 (fun h => ?_) (fun h => ?_)
  · have h' : (j : Int) < ((ns.map T.int).length : Int) := of_decide_eq_true h
    rw [List.length_map] at h'
    have hj : j < ns.length := by omega
    refine ⟨.int (ns.getD j 0), atI_nat ?_, hq⟩
    rw [List.getElem?_map, List.getElem?_eq_getElem hj, List.getD, List.getElem?_eq_getElem hj]
    rfl
  · have h' : ¬ ((j : Int) < ((ns.map T.int).length : Int)) := fun z => h (decide_eq_true z)
    rw [List.length_map] at h'
    have e : ns.getD j 0 = 0 := by
      rw [List.getD, List.getElem?_eq_none (by omega)]
      rfl
    rw [e] at hq
    exact hq
abbrev n_words : List Str := ["_law_cell", "_law_many", "_law_letters", "_law_size", "_law_at", "_law_words_here", "_law_k", "_law_word", "_law_j", "_law_number"]
theorem sc_words : FnScope n_words ["_law_cell", "_law_many"] (defScope s_words) := ⟨rfl, rfl, rfl, by decide +kernel, rfl, by decide +kernel, by decide +kernel⟩
theorem ok_words {f : Addr} {fd : FuncData} (D : Df K mg "_law_words" s_words ["_law_cell", "_law_many"] f fd) (M : MgG mg) : Cal P w K mg base "_law_words" ["_law_cell", "_law_many"] 1 (spP K 2 gWords) := by
  refine D.cal (fnP D.F sc_words rfl fun cdv A outer s H E Ox hr ts q hG => ?_)
  have nd := sc_words.nd
  have hu := Room.u101 hr
  have np : ∀ {i : Nat}, NotPar ⟨H, [], Ox⟩ i := np0
  have npf : ∀ {is : List Nat}, ∀ i ∈ is, NotPar ⟨H, [], Ox⟩ i := fun i _ => np0
  refine ⟨_, (vss_cons (vs_set (i := 2) nd rfl (Or.inl rfl) (VP.vx vp_str) np)
      (vss_cons (vs_set (i := 0) nd rfl (Or.inl rfl) (VP.vx (vp_mod (vr_var 0) (VP.vr (vp_pow (VP.vr vp_int) (VP.vr vp_int))))) np)
      (vss_cons (vs_set (i := 3) nd rfl (Or.inl rfl) (VP.vx (vp_add (VP.vr vp_int) (VP.vr (vp_mod (vr_var 0) (VP.vr vp_int))))) np)
      (vss_cons (vs_set (i := 4) nd rfl (Or.inl rfl) (VP.vx (vp_mod (VP.vr (vp_fdiv (vr_var 0) (VP.vr vp_int))) (vr_var 3))) np)
      (vss_cons (vs_own (i := 5) nd rfl (Or.inl rfl) (VP.vx (vp_lst va_nil)) np)
      (vss_cons (vs_for PassesOwn.never rfl (vi_range1 (by rfl) M.range (vr_var 1)) (vg_name (i := 6) nd rfl (Or.inl rfl) np)
        (vss_cons (vs_set (i := 7) nd rfl (Or.inl rfl) (VP.vx vp_str) np)
        (vss_cons (vs_for PassesOwn.never rfl (vi_range1 (by rfl) M.range (vr_var 3)) (vg_name (i := 8) nd rfl (Or.inl rfl) np)
          (vss_cons (vs_set (i := 9) nd rfl (Or.inl rfl) (VP.vx (vp_add (VP.vr (vp_fdiv (VP.vr (vp_fdiv (vr_var 0) (VP.vr vp_int))) (VP.vr (vp_add (vr_var 8) (VP.vr vp_int))))) (VP.vr (vp_mul (vr_var 8) (vr_var 8))))) np)
          (vss_cons (vs_if (vc_eq hu (vr_var 8) (vr_var 4))
            (vss_one (vs_aug (i := 9) nd rfl (Or.inl rfl) (vr_var 6) iop_add opT_AddI np))
            vss_nil)
          (vss_one (vs_set (i := 7) nd rfl (Or.inl rfl) (VP.vx (vp_add (vr_var 7) (VP.vr (vp_ix (vr_var 2) (VP.vr (vp_mod (vr_var 9) (VP.vr vp_int))))))) np)))))
        (vss_one (vs_expr (vx_bm 5 PySem.F.slot_list_append PySem.F.type_list_append mt_append mtT_append (va_cons (ve_var 7) va_nil)))))))
      (vss_cons (vs_if (vc_eq hu (VP.vr (vp_mod (VP.vr (vp_fdiv (vr_var 0) (VP.vr vp_int))) (VP.vr vp_int))) (VP.vr vp_int))
        (vss_one (vs_put 5 (VP.ve (vp_add (VP.vr (vp_ix (vr_var 5) (VP.vr vp_int))) (VP.vr (vp_ix (vr_var 2) (VP.vr (vp_mod (VP.vr (vp_fdiv (vr_var 0) (VP.vr vp_int))) (VP.vr vp_int))))))) (VP.vr vp_int)))
        vss_nil)
      (vss_one (vs_ret (vx_give 5 np)))))))))), fun _ => ?_⟩
  obtain ⟨c, m, rfl, hm2, hm20, hq⟩ := hG
  have e12 : (10 : Int) ^ (12 : Int).toNat = 1000000000000 := ten12
  have hz : (1 : Int) + c % (10 : Int) ^ (12 : Int).toNat % 7 = (szN c : Int) := by rw [e12]; exact (sz_eq c).symm
  have hsz := sz_pos c
  refine ⟨⟨by decide, by decide, by decide⟩, (by show (0 : Int) < 10 ^ (12 : Int).toNat; decide), (by show (0 : Int) < 7; decide), ⟨by decide, by decide⟩, (by show (0 : Int) < 1 + c % 10 ^ (12 : Int).toNat % 7; rw [hz]; omega), Nat.zero_le _, by omega, by omega, ?_⟩
  refine loop_range (fun k ρ => ∃ kv wv jv nv, ρ = [some (.int (c12 c), false), some (.int (m : Int), false), some (.str letters, false), some (.int (szN c : Int), false), some (.int (atN c : Int), false), some (.lst (((List.range k).map fun k => wordK c k (szN c)).map .str), true), kv, wv, jv, nv]) ⟨none, none, none, none, ?_⟩ ?_ ?_
  · have ha : c % (10 : Int) ^ (12 : Int).toNat / 7 % (1 + c % (10 : Int) ^ (12 : Int).toNat % 7) = (atN c : Int) := by rw [hz, e12]; exact (at_eq c).symm
    show [some (T.int (c % (10 : Int) ^ (12 : Int).toNat), false), _, _, some (T.int (1 + c % (10 : Int) ^ (12 : Int).toNat % 7), false), some (T.int (c % (10 : Int) ^ (12 : Int).toNat / 7 % (1 + c % (10 : Int) ^ (12 : Int).toNat % 7)), false), _, _, _, _, _] = _
    rw [ha, hz, e12]
    rfl
  · rintro k ρ hk ⟨kv, wv, jv, nv, rfl⟩
    refine ⟨by omega, by omega, ?_⟩
    refine loop_range (fun j ρ => ∃ jv nv, ρ = [some (.int (c12 c), false), some (.int (m : Int), false), some (.str letters, false), some (.int (szN c : Int), false), some (.int (atN c : Int), false), some (.lst (((List.range k).map fun k => wordK c k (szN c)).map .str), true), some (.int (0 + (k : Int)), false), some (.str (wordK c k j), false), jv, nv]) ⟨_, _, rfl⟩ ?_ ?_
    · rintro j ρ hj ⟨jv, nv, rfl⟩
      have hj' : j < szN c := by omega
      refine ⟨⟨by decide, by decide⟩, ⟨by show (0 : Int) < 0 + (j : Int) + 1; omega, by show 0 + (j : Int) + 1 < 1073741824; omega⟩, .inl ⟨by show -(2 ^ 64) < 0 + (j : Int); omega, by show 0 + (j : Int) < 2 ^ 64; omega⟩, ?_⟩
      have last : ∀ n : Int, n = numJ c k j → ∃ c', atI letters.cps.toList (n % 26) = some c' ∧ (wordK c k j).length + (Str.mk #[c']).length ≤ sizeLine ∧ (wordK c k j ++ ⟨#[c']⟩) = wordK c k (j + 1) := by
        rintro n rfl
        refine ⟨_, letter_at _, ?_, (wordK_succ c k j).symm⟩
        rw [wordK_len, sizeLine_eq]
        show j + 1 ≤ 16777216
        omega
      refine iteD (fun h => ?_) (fun h => ?_)
      · have hja : j = atN c := by have h : (0 : Int) + (j : Int) = (atN c : Int) := h; omega
        obtain ⟨c', h1, h2, h3⟩ := last (c12 c / 49 / (0 + (j : Int) + 1) + (0 + (j : Int)) * (0 + (j : Int)) + (0 + (k : Int))) (by unfold numJ; rw [if_pos hja]; simp only [Int.zero_add])
        exact ⟨by show (0 : Int) < 26; decide, letters_small, c', h1, h2, _, _, by rw [← h3]; rfl⟩
      · have hja : ¬ j = atN c := fun z => h (by show (0 : Int) + (j : Int) = (atN c : Int); omega)
        obtain ⟨c', h1, h2, h3⟩ := last (c12 c / 49 / (0 + (j : Int) + 1) + (0 + (j : Int)) * (0 + (j : Int))) (by unfold numJ; rw [if_neg hja]; simp only [Int.zero_add, Int.add_zero])
        exact ⟨by show (0 : Int) < 26; decide, letters_small, c', h1, h2, _, _, by rw [← h3]; rfl⟩
    · rintro ρ ⟨jv, nv, rfl⟩
      refine ⟨?_, some (.int (0 + (k : Int)), false), some (.str (wordK c k (szN c)), false), jv, nv, ?_⟩
      · rw [List.length_map, List.length_map, List.length_range, sizeLine_eq]; omega
      · rw [List.range_succ, List.map_append, List.map_append]; rfl
  · rintro ρ ⟨kv, wv, jv, nv, rfl⟩
    refine ⟨⟨by decide, by decide⟩, (by show (0 : Int) < 3; decide), iteD (fun h => ?_) (fun h => ?_)⟩
    · have hc : c12 c / 49 % 3 = 1 := h
      have e0 : atI (((List.range m).map fun k => wordK c k (szN c)).map T.str) 0 = some (T.str (wordK c 0 (szN c))) := by
        refine atI_nat (j := 0) ?_
        rw [List.getElem?_map, List.getElem?_map, List.getElem?_range (by omega)]
        rfl
      refine ⟨_, e0, ⟨by decide, by decide⟩, (by show (0 : Int) < 26; decide), letters_small, _, letter_at _, ?_, 1, ?_, ?_⟩
      · rw [wordK_len, sizeLine_eq]
        show szN c + 1 ≤ 16777216
        omega
      · unfold ixN
        rw [if_pos (by decide), if_pos (by rw [List.length_map, List.length_map, List.length_range]; omega)]
        rfl
      · have e : (wordsL c m).map T.str = (((List.range m).map fun k => wordK c k (szN c)).map T.str).set 1 (T.str (wordK c 0 (szN c) ++ ⟨#[letC (c12 c / 147)]⟩)) := by
          unfold wordsL
          rw [if_pos hc, List.map_set]
        rw [e] at hq
        exact hq
    · have hc : ¬ c12 c / 49 % 3 = 1 := h
      have e : (wordsL c m).map T.str = (((List.range m).map fun k => wordK c k (szN c)).map T.str) := by
        unfold wordsL
        rw [if_neg hc]
      rw [e] at hq
      exact hq
end
end GenV
set_option Elab.async false
set_option linter.all false
set_option maxRecDepth 100000
set_option maxHeartbeats 4000000
set_option Elab.async false
set_option linter.all false
set_option maxRecDepth 100000
namespace L2
open PySem PySem.Spec PyProof.Rows
end L2
namespace L2
open PySem PySem.Spec PyProof.Rows
section
variable (P : Program) (w : World)
end
section
variable {P : Program} {w : World} {H H' : Hp} {h h' : Heap} {a : Addr} {o : HO}
end
section
variable {P : Program} {w : World} {H : Hp} {h h' : Heap} {x e : Addr} {o' : HO}
end
section
variable {fs fs' ex ex' : List Addr} {H H1 H2 : Hp} {h h1 h2 h' : Heap} {a x e : Addr} {o : HO}
end
end L2
namespace L2
open PySem PySem.Spec PyProof.Rows
section
variable {X : Cx} {pins : List (Addr × Obj)} {σ : List (Option V)} {H H' : Hp} {s : Shared} {h' : Heap}
end
end L2
namespace L2
open PySem PySem.Spec PyProof.Rows
section
variable {X : Cx}
variable {a b : Expr} {ta tb : TE} {pos : Pos}
variable {tA tB' : TT} {rest : List Expr}
end
end L2
namespace L2
open PySem PySem.Spec PyProof.Rows
section
variable {X : Cx} {pins : List (Addr × Obj)} {σ : St} {H : Hp} {s : Shared} {a : Addr} {xs ys : List V}
end
section
variable {X : Cx} {pins : List (Addr × Obj)} {σ : St} {H : Hp} {s : Shared} {E : Value → Shared → Prop}
end
section
variable {X : Cx} {st : Stmt} {rest : List Stmt} {t u : TS} {e : Expr} {te : TE} {pos : Pos}
end
section
variable {X : Cx} {pos : Pos}
end
section
variable {X : Cx} {pos : Pos}
end
end L2
namespace L2
open PySem PySem.Spec PyProof.Rows
section
variable {X : Cx} {tg : Expr}
end
end L2
namespace L2
open PySem PySem.Spec PyProof.Rows
section
variable {X : Cx} {a b c : Expr} {ta tb tc : TE} {pos : Pos}
end
section
variable {X : Cx} {a b c : Expr} {ta tb tc : TE} {pos : Pos}
end
end L2
namespace L2
open PySem PySem.Spec PyProof.Rows
section
variable {prog : Program} {w : World} {A : Around} {E : Value → Shared → Prop} {s : Shared} {K : PySem.W.Frag} {x dx C f : Addr} {mA : Str → Option Value} {name : Str} {v : Value}
end
section
variable {P : Program} {w : World} {H H' : Hp} {h h' : Heap} {a C dx : Addr} {fs fs' : List (Str × V)}
end
section
variable {X : Cx} {pins : List (Addr × Obj)} {σ : St} {H : Hp} {s : Shared} {a C dx : Addr} {fs : List (Str × V)} {f : Str} {v : V} {A : Around} {E : Value → Shared → Prop}
end
section
variable {X : Cx} {o e value : Expr} {f : Str} {pos pos' tpos : Pos} {ta tv : TE}
end
section
variable {X : Cx} {pins : List (Addr × Obj)} {σ : St} {H : Hp} {s : Shared} {A : Around} {E : Value → Shared → Prop} {Q : Value → Shared → Prop} {c : Value} {b : Bool}
end
end L2
namespace L2
open PySem PySem.Spec PyProof.Rows
section
variable {X : Cx} {e : Expr} {es : List Expr} {te : TE} {t : TA} {pos : Pos}
end
section
variable {X : Cx} {pins : List (Addr × Obj)} {σ : St} {H : Hp} {s s' : Shared}
end
section
variable {X : Cx} {CX : CXT} {k : Nat} {f C : Addr} {fd : FuncData} {ps : List Str} {sp : Sp} {dvs : List V} {ds : List Value} {E : XK} {x m : Str} {p pos apos : Pos} {e o : Expr} {es : List Expr} {ta : TE} {t : TA}
end
section
variable {X : Cx} {CX : CXT} {k : Nat} {f C : Addr} {fd : FuncData} {ps ks : List Str} {sp : Sp} {E : XK} {x m : Str} {p pos apos kpos : Pos} {e o : Expr} {es : List Expr} {kws : List Keyword} {te ta : TE} {t tk : TA} {nm : Option Str}
variable {g : List Value → List Value → List Value} {gV : List V → List V → List V}
end
end L2
namespace L2
open PySem PySem.Spec PyProof.Rows
section
variable {X : Cx} {x : Str} {p pos : Pos} {e : Expr} {es : List Expr} {t : TA} {id T : String} {r : List V → Hp → VK → Prop}
end
end L2
namespace L2
open PySem PySem.Spec PyProof.Rows
section
variable {κ : Type} [DecidableEq κ]
def valV (kvs : List (κ × V)) (k : κ) : Option V := (kvs.find? fun kv => decide (kv.1 = k)).map (·.2)
def putK (kvs : List (κ × V)) (k : κ) (v : V) : List (κ × V) :=
  if (kvs.any fun kv => decide (kv.1 = k)) = true then kvs.map (fun kv => if kv.1 = k then (kv.1, v) else kv) else kvs ++ [(k, v)]
def dropK (kvs : List (κ × V)) (k : κ) : List (κ × V) := kvs.filter fun kv => decide (kv.1 ≠ k)
theorem valV_pos {p : κ × V} {r : List (κ × V)} {k : κ} (e : p.1 = k) : valV (p :: r) k = some p.2 := by simp [valV, List.find?_cons, e]
theorem valV_neg {p : κ × V} {r : List (κ × V)} {k : κ} (e : ¬ p.1 = k) : valV (p :: r) k = valV r k := by simp [valV, List.find?_cons, e]
theorem valV_any (k : κ) : ∀ kvs : List (κ × V), (kvs.any fun kv => decide (kv.1 = k)) = (valV kvs k).isSome
  | [] => rfl
  | p :: r => by
    rw [List.any_cons]
    by_cases e : p.1 = k
    · simp only [valV_pos e, decide_eq_true e, Bool.true_or, Option.isSome_some]
    · rw [valV_neg e, decide_eq_false e, Bool.false_or]; exact valV_any k r
theorem length_putK (kvs : List (κ × V)) (k : κ) (v : V) : (putK kvs k v).length ≤ kvs.length + 1 := by
  unfold putK
  split
  · rw [List.length_map]; omega
  · rw [List.length_append, List.length_cons, List.length_nil]; omega
theorem RelO.isSome_eq {o : Option V} {u : Option Value} (r : RelO o u) : o.isSome = u.isSome := by
  cases o with
  | none => cases u with
    | none => rfl
    | some _ => exact (show False from r).elim
  | some _ => cases u with
    | none => exact (show False from r).elim
    | some _ => rfl
theorem RelO.getD {o : Option V} {u : Option Value} {d : V} {d' : Value} (r : RelO o u) (rd : RelV d d') : RelV (o.getD d) (u.getD d') := by
  cases o with
  | none => cases u with
    | none => exact rd
    | some _ => exact (show False from r).elim
  | some _ => cases u with
    | none => exact (show False from r).elim
    | some _ => exact r
theorem KV.val {kvs : List (κ × V)} {vs : List (κ × Value)} (r : KV kvs vs) (k : κ) : RelO (valV kvs k) (valueAt vs k) := by
  unfold KV at r
  induction r with
  | nil => exact True.intro
  | @cons p q ps qs h t ih =>
    obtain ⟨h1, h2⟩ := h
    by_cases e : p.1 = k
    · have e' : q.1 = k := h1.symm.trans e
      have b : valueAt (q :: qs) k = some q.2 := by simp [valueAt, List.find?_cons, e']
      rw [valV_pos e, b]; exact h2
    · have e' : ¬ q.1 = k := fun z => e (h1.trans z)
      have b : valueAt (q :: qs) k = valueAt qs k := by simp [valueAt, List.find?_cons, e']
      rw [valV_neg e, b]; exact ih
theorem KV.any {kvs : List (κ × V)} {vs : List (κ × Value)} (r : KV kvs vs) (k : κ) : (kvs.any fun kv => decide (kv.1 = k)) = vs.any fun kv => decide (kv.1 = k) := by
  unfold KV at r
  induction r with
  | nil => rfl
  | cons h t ih => rw [List.any_cons, List.any_cons, ih, h.1]
theorem KV.repl {kvs : List (κ × V)} {vs : List (κ × Value)} (r : KV kvs vs) (k : κ) {y : V} {u : Value} (ry : RelV y u) :
    KV (kvs.map fun kv => if kv.1 = k then (kv.1, y) else kv) (vs.map fun kv => if kv.1 = k then (kv.1, u) else kv) := by
  unfold KV at r ⊢
  induction r with
  | nil => exact .nil
  | @cons p q ps qs h t ih =>
    rw [List.map_cons, List.map_cons]
    refine .cons ?_ ih
    obtain ⟨h1, h2⟩ := h
    by_cases e : p.1 = k
    · rw [if_pos e, if_pos (h1.symm.trans e)]; exact ⟨h1, ry⟩
    · rw [if_neg e, if_neg (fun z => e (h1.trans z))]; exact ⟨h1, h2⟩
theorem KV.put {kvs : List (κ × V)} {vs : List (κ × Value)} (r : KV kvs vs) (k : κ) {y : V} {u : Value} (ry : RelV y u) : KV (putK kvs k y) (stored vs k u) := by
  unfold putK stored
  rw [r.any k]
  by_cases e : (vs.any fun kv => decide (kv.1 = k)) = true
  · rw [if_pos e, if_pos e]; exact r.repl k ry
  · rw [if_neg e, if_neg e]; exact Paired.snoc r ⟨rfl, ry⟩
theorem KV.drop {kvs : List (κ × V)} {vs : List (κ × Value)} (r : KV kvs vs) (k : κ) : KV (dropK kvs k) (without vs k) := by
  unfold KV at r ⊢
  unfold dropK without
  induction r with
  | nil => exact .nil
  | @cons p q ps qs h t ih =>
    obtain ⟨h1, h2⟩ := h
    rw [List.filter_cons, List.filter_cons]
    by_cases e : p.1 = k
    · have a : ¬ decide (p.1 ≠ k) = true := by simp [e]
      have b : ¬ decide (q.1 ≠ k) = true := by simp [h1.symm.trans e]
      rw [if_neg a, if_neg b]; exact ih
    · have e' : ¬ q.1 = k := fun z => e (h1.trans z)
      have a : decide (p.1 ≠ k) = true := by simp [e]
      have b : decide (q.1 ≠ k) = true := by simp [e']
      rw [if_pos a, if_pos b]; exact .cons ⟨h1, h2⟩ ih
theorem KV.keys {kvs : List (κ × V)} {vs : List (κ × Value)} (r : KV kvs vs) : kvs.map (·.1) = vs.map (·.1) := by
  unfold KV at r
  induction r with
  | nil => rfl
  | cons h t ih => rw [List.map_cons, List.map_cons, ih, h.1]
theorem KV.length {kvs : List (κ × V)} {vs : List (κ × Value)} (r : KV kvs vs) : kvs.length = vs.length := Paired.length r
end
theorem kV_is {P : Program} {w : World} {k : Key} {u : Value} (r : RelV (kV k) u) : (mixKind P w).is k u = true := by
  cases k with
  | inl i => obtain ⟨t, e⟩ := (show ∃ t, u = Value.int i t from r); subst e; exact mixKind_int P w i t
  | inr x => obtain ⟨t, e⟩ := (show ∃ t, u = Value.str x t from r); subst e; exact mixKind_str P w x t
theorem items_are {P : Program} {w : World} : ∀ {ks : List Key} {us : List Value}, Vals (ks.map kV) us → ItemsAre (mixKind P w) ks us
  | [], _, r => by rw [List.map_nil] at r; cases r; exact .nil
  | k :: ks, _, r => by
    rw [List.map_cons] at r
    cases r with
    | cons h t => exact .cons (kV_is h) (items_are t)
abbrev KT (H : Hp) : List (List Key × V) → List (List Key × Addr × Value) → Prop := Paired fun p q => p.1 = q.1 ∧ H q.2.1 = some (.tup (p.1.map kV)) ∧ RelV p.2 q.2.2
theorem KT.val {H : Hp} {kvs : List (List Key × V)} {xs : List (List Key × Addr × Value)} (r : KT H kvs xs) (k : List Key) : RelO (valV kvs k) ((atKey xs k).map (·.2)) := by
  induction r with
  | nil => exact True.intro
  | @cons p q ps qs h t ih =>
    obtain ⟨h1, _, h2⟩ := h
    by_cases e : p.1 = k
    · have e' : q.1 = k := h1.symm.trans e
      have b : atKey (q :: qs) k = some q.2 := by simp [atKey, List.find?_cons, e']
      rw [valV_pos e, b]; exact h2
    · have e' : ¬ q.1 = k := fun z => e (h1.trans z)
      have b : atKey (q :: qs) k = atKey qs k := by simp [atKey, List.find?_cons, e']
      rw [valV_neg e, b]; exact ih
theorem KT.repl {H : Hp} {kvs : List (List Key × V)} {xs : List (List Key × Addr × Value)} (r : KT H kvs xs) (k : List Key) {y : V} {u : Value} (ry : RelV y u) :
    KT H (kvs.map fun kv => if kv.1 = k then (kv.1, y) else kv) (xs.map (putAt k u)) := by
  induction r with
  | nil => exact .nil
  | @cons p q ps qs h t ih =>
    rw [List.map_cons, List.map_cons]
    refine .cons ?_ ih
    obtain ⟨h1, h2, h3⟩ := h
    unfold putAt
    by_cases e : p.1 = k
    · rw [if_pos e, if_pos (h1.symm.trans e)]; exact ⟨h1, h2, ry⟩
    · rw [if_neg e, if_neg (fun z => e (h1.trans z))]; exact ⟨h1, h2, h3⟩
theorem KT.put {H : Hp} {kvs : List (List Key × V)} {xs : List (List Key × Addr × Value)} (r : KT H kvs xs) (k : List Key) {b : Addr} {y : V} {u : Value} (hb : H b = some (.tup (k.map kV))) (ry : RelV y u) :
    KT H (putK kvs k y) (storedH xs k b u) := by
  have e : (kvs.any fun kv => decide (kv.1 = k)) = (atKey xs k).isSome := by
    rw [valV_any, (r.val k).isSome_eq, Option.isSome_map]
  unfold putK storedH
  rw [e]
  by_cases q : (atKey xs k).isSome = true
  · rw [if_pos q, if_pos q]; exact r.repl k ry
  · rw [if_neg q, if_neg q]; exact Paired.snoc r ⟨rfl, hb, ry⟩
theorem KT.keeps {H H' : Hp} {kvs : List (List Key × V)} {xs : List (List Key × Addr × Value)} (r : KT H kvs xs) (ht : ∀ b ys, H b = some (.tup ys) → H' b = some (.tup ys)) : KT H' kvs xs :=
  Paired.mapP r fun _ _ z => ⟨z.1, ht _ _ z.2.1, z.2.2⟩
section
variable {P : Program} {w : World} {H : Hp} {h : Heap} {a : Addr}
theorem rd_of {u : HO} (ok : HOk P w H h) (e : Rd H a u) : ObjOk P w H h a u := e.ok ok
theorem dk_rd {kvs : List (Key × V)} (ok : HOk P w H h) (e : Rd H a (.dK kvs)) : kvs.length ≤ sizeLine ∧ (a == sysModules) = false ∧ ∃ vs, KV kvs vs ∧ h.DictOf (mixKind P w) a vs :=
  show ObjOk P w H h a (.dK kvs) from rd_of ok e
theorem dk_of {kvs : List (Key × V)} (ok : HOk P w H h) (e : H a = some (.dK kvs)) : kvs.length ≤ sizeLine ∧ (a == sysModules) = false ∧ ∃ vs, KV kvs vs ∧ h.DictOf (mixKind P w) a vs := dk_rd ok (.inl e)
theorem key_of {ks : List Key} (ok : HOk P w H h) (e : H a = some (.tup (ks.map kV))) : (tupleKind (mixKind P w)).is h ks a := by
  obtain ⟨_, its, r, o, h1, h2, n, h3⟩ := (show ObjOk P w H h a (.tup (ks.map kV)) from ok a _ e)
  exact ⟨o, its.toArray, n, h1, h2, h3, by simpa using items_are r⟩
theorem dt_rd {kvs : List (List Key × V)} (ok : HOk P w H h) (e : Rd H a (.dT kvs)) : kvs.length ≤ sizeLine ∧ (a == sysModules) = false ∧
    ∃ xs, KT H kvs xs ∧ h.DictOfH (tupleKind (mixKind P w)) a xs := by
  obtain ⟨z, y, xs, r, o, es, ep, h1, h2, h3, h4, h5⟩ := (show ObjOk P w H h a (.dT kvs) from rd_of ok e)
  refine ⟨z, y, xs, r, o, es, ep, h1, h2, h3, h4, fun x hx => ?_, h5⟩
  have all : ∀ {l : List (List Key × V)} {m : List (List Key × Addr × Value)}, KT H l m → ∀ x ∈ m, (tupleKind (mixKind P w)).is h x.1 x.2.1 := by
    intro l m q
    induction q with
    | nil => intro x hx; exact nomatch hx
    | @cons p q ps qs hq t ih =>
      intro x hx
      rcases List.mem_cons.mp hx with e | hx
      · subst e
        exact key_of ok (by rw [← hq.1]; exact hq.2.1)
      · exact ih x hx
  exact all r x hx
theorem dt_of {kvs : List (List Key × V)} (ok : HOk P w H h) (e : H a = some (.dT kvs)) : kvs.length ≤ sizeLine ∧ (a == sysModules) = false ∧
    ∃ xs, KT H kvs xs ∧ h.DictOfH (tupleKind (mixKind P w)) a xs := dt_rd ok (.inl e)
end
def DGet (H : Hp) (a : Addr) (y : V) (r : Option V) : Prop :=
  (∃ kvs k, Rd H a (.dK kvs) ∧ y = kV k ∧ r = valV kvs k) ∨ ∃ kvs k b, Rd H a (.dT kvs) ∧ y = .ref b ∧ H b = some (.tup (k.map kV)) ∧ r = valV kvs k
def DPut (H : Hp) (a : Addr) (y v : V) (H' : Hp) : Prop :=
  (∃ kvs k, H a = some (.dK kvs) ∧ y = kV k ∧ kvs.length < sizeLine ∧ H' = upd H a (.dK (putK kvs k v))) ∨
  ∃ kvs k b, H a = some (.dT kvs) ∧ y = .ref b ∧ H b = some (.tup (k.map kV)) ∧ kvs.length < sizeLine ∧ H' = upd H a (.dT (putK kvs k v))
theorem DGet.k {H : Hp} {a : Addr} {kvs : List (Key × V)} {k : Key} (e : H a = some (.dK kvs)) : DGet H a (kV k) (valV kvs k) := .inl ⟨kvs, k, .inl e, rfl, rfl⟩
theorem DGet.t {H : Hp} {a b : Addr} {kvs : List (List Key × V)} {k : List Key} (e : H a = some (.dT kvs)) (eb : H b = some (.tup (k.map kV))) : DGet H a (.ref b) (valV kvs k) := .inr ⟨kvs, k, b, .inl e, rfl, eb, rfl⟩
theorem DPut.k {H : Hp} {a : Addr} {kvs : List (Key × V)} {k : Key} {v : V} (e : H a = some (.dK kvs)) (hl : kvs.length < sizeLine) : DPut H a (kV k) v (upd H a (.dK (putK kvs k v))) := .inl ⟨kvs, k, e, rfl, hl, rfl⟩
theorem DPut.t {H : Hp} {a b : Addr} {kvs : List (List Key × V)} {k : List Key} {v : V} (e : H a = some (.dT kvs)) (eb : H b = some (.tup (k.map kV))) (hl : kvs.length < sizeLine) :
    DPut H a (.ref b) v (upd H a (.dT (putK kvs k v))) := .inr ⟨kvs, k, b, e, rfl, eb, hl, rfl⟩
section
variable {X : Cx} {pins : List (Addr × Obj)} {σ : St} {H : Hp} {s : Shared} {a : Addr} {y v : V} {u r : Value} {o : Option V} {A : Around} {E : Value → Shared → Prop}
theorem Inv.big (I : Inv X pins σ H s) : sysModules < s.heap.objs.size := by
  have h : mainGlobals < s.heap.objs.size := (I.mod.glob.keeps I.bk).lt
  exact Nat.lt_trans (by decide) h
theorem d_getItem {Q : Value → Shared → Prop} (hu : A.units + 1 < cLine) (I : Inv X pins σ H s) (g : DGet H a y (some v)) (ry : RelV y u) (h : ∀ w' s', Inv X pins σ H s' → RelV v w' → Q w' s') :
    wpAny (model X.prog X.w) A (getItem (.ref a) u) Q E s := by
  rcases g with ⟨kvs, k, e, ey, l⟩ | ⟨kvs, k, b, e, ey, eb, l⟩
  · subst ey
    obtain ⟨z, hd, vs, rel, dd⟩ := dk_rd I.hok e
    obtain ⟨w', hw, rw'⟩ := RelO.some_of (v := v) (o := valueAt vs k) (by rw [l]; exact rel.val k)
    exact wpAny_getItem_of (kV_is ry) dd.mapOf hw (h w' _ (I.tok _) rw')
  · subst ey
    cases (show u = Value.ref b from ry)
    obtain ⟨z, hd, xs, rel, dd⟩ := dt_rd I.hok e
    obtain ⟨w', hw, rw'⟩ := RelO.some_of (v := v) (o := (atKey xs k).map (·.2)) (by rw [l]; exact rel.val k)
    obtain ⟨p, hp, hp2⟩ := Option.map_eq_some_iff.mp hw
    refine wpAny_getItem_heap (tupleKind_room_in1 hu) (key_of I.hok eb) dd hp ?_
    rw [hp2]
    exact h w' _ (I.tok _) rw'
theorem d_write {h' : Heap} {t' : Nat} {ob : HO} (I : Inv X pins σ H s) (mu : Mut (H a)) (hs : Heap.SameBut a s.heap h') (he : ∃ q, h'.get? a = some q) (new : ObjOk X.prog X.w (upd H a ob) h' a ob) :
    Inv X pins σ (upd H a ob) { s with heap := h', toks := t' } :=
  I.write (x := a) (e := a) mu (.inl rfl) (fun b q hb z => (hs.2 b hb).trans z) he new
theorem dk_new {P : Program} {w : World} {H' : Hp} {h' : Heap} {kvs : List (Key × V)} {vs : List (Key × Value)} (z : kvs.length ≤ sizeLine) (hd : (a == sysModules) = false) (rel : KV kvs vs) (dd : h'.DictOf (mixKind P w) a vs) :
    ObjOk P w H' h' a (.dK kvs) := ⟨z, hd, vs, rel, dd⟩
theorem d_setItem {H' : Hp} {Q : Unit → Shared → Prop} (hu : A.units + 1 < cLine) (I : Inv X pins σ H s) (g : DPut H a y v H') (ry : RelV y u) (rv : RelV v r) (h : ∀ s', Inv X pins σ H' s' → Q () s') :
    wpAny (model X.prog X.w) A (setItem (.ref a) u r) Q E s := by
  rcases g with ⟨kvs, k, e, ey, l, eH⟩ | ⟨kvs, k, b, e, ey, eb, l, eH⟩
  · subst ey eH
    obtain ⟨z, hd, vs, rel, dd⟩ := dk_of I.hok e
    have hz : vs.length ≤ sizeLine := by rw [← rel.length]; exact z
    have hl : (putK kvs k v).length ≤ sizeLine := by have := length_putK kvs k v; omega
    refine wpAny_setItem_pairs (hsz := hz) (kV_is ry) dd fun h' dd' hs => h _ ?_
    have he : ∃ q, h'.get? a = some q := let ⟨q, _, _, hq, _⟩ := dd'; ⟨q, hq⟩
    exact d_write I (by rw [e]; exact True.intro) hs he (dk_new hl hd (rel.put k rv) dd')
  · subst ey eH
    cases (show u = Value.ref b from ry)
    obtain ⟨z, hd, xs, rel, dd⟩ := dt_of I.hok e
    have hz : xs.length ≤ sizeLine := by rw [← Paired.length rel]; exact z
    have hl : (putK kvs k v).length ≤ sizeLine := by have := length_putK kvs k v; omega
    refine wpAny_setItem_heap (hsz := hz) (tupleKind_room_in1 hu) (key_of I.hok eb) dd fun h' dd' hs => h _ ?_
    obtain ⟨q, es, ep, hq, h2, h3, h4, _, h5⟩ := dd'
    refine d_write I (by rw [e]; exact True.intro) hs ⟨q, hq⟩ ⟨hl, hd, _, (rel.put k eb rv).keeps fun c ys ec => ?_, q, es, ep, hq, h2, h3, h4, h5⟩
    rw [upd_ne (ne_of ec e (fun z => nomatch z))]
    exact ec
end
section
variable {X : Cx} {pins : List (Addr × Obj)} {σ : St} {H : Hp} {s : Shared} {a : Addr} {kvs : List (Key × V)} {k : Key} {u : Value} {A : Around} {E : Value → Shared → Prop}
end
def NoSl (i : Expr) : Prop := ∀ ov iv, subscripted i false ov iv = operate [ov, iv] (getItem ov iv)
theorem subD_of {prog : Program} {w : World} {A : Around} {E : Value → Shared → Prop} {s : Shared} {env : Env} {value slice : Expr} {pos : Pos} {T id : String} {Q : Value → Shared → Prop}
    (hl : typeLookup (.type T) "__getitem__" = pure (some (.builtin id))) (hs : NoSl slice)
    (h : wpAny (model prog w) A (eval value env) (fun o s₁ => wpAny (model prog w) A (eval slice env) (fun i s₂ => s₂.TypeIs o T ∧ wpAny (model prog w) A (getItem o i) Q E s₂) E s₁) E s) :
    wpAny (model prog w) A (eval (.Subscript value slice pos) env) Q E s := by
  refine Subscript_ (wpAny_mono h (fun o s₁ h₁ => wpAny_mono h₁ (fun i s₂ h₂ => ?_) fun _ _ x => x) fun _ _ x => x)
  obtain ⟨hT, h₂⟩ := h₂
  unfold subscriptTail
  refine wpAny_bind ?_
  rw [getitemInPython_of_ne hT.not_modules]
  refine wpAny_bind (wpAny_specialOf hT hl ?_)
  have fin : wpAny (model prog w) A (subscripted slice false o i) (fun r s₃ => wpAny (model prog w) A (letTemporaryGo value o r >>= fun _ => pure r) Q E s₃) E s₂ := by
    rw [hs o i]
    exact wpAny_operating (wpAny_mono h₂ (fun r s₃ h₃ => wpAny_bind (wpAny_letTemporaryGo (wpAny_pure h₃))) fun _ _ x => x)
  first
    | exact wpAny_pure (wpAny_bind fin)
    | exact wpAny_bind (wpAny_pure (wpAny_bind fin))
    | exact wpAny_bind fin
theorem dict_typeIs {X : Cx} {pins : List (Addr × Obj)} {σ : St} {H : Hp} {s : Shared} {a : Addr} {y : V} {o : Option V} (I : Inv X pins σ H s) (g : DGet H a y o) : s.TypeIs (.ref a) "dict" := by
  rcases g with ⟨kvs, k, e, _, _⟩ | ⟨kvs, k, b, e, _, _, _⟩
  · obtain ⟨_, _, vs, _, dd⟩ := dk_rd I.hok e
    exact dd.typeIs
  · obtain ⟨_, _, xs, _, dd⟩ := dt_rd I.hok e
    exact dd.typeIs
def tDGet (td ty : TE) : TE := fun σ H Q => td σ H fun x H1 => ty σ H1 fun y H2 => ∃ a v, x = .ref a ∧ DGet H2 a y (some v) ∧ Q v H2
def sDPut (td ty tv : TE) : TS := fun D σ H => tv σ H fun v H1 => td σ H1 fun x H2 => ty σ H2 fun y H3 => ∃ a H4, x = .ref a ∧ DPut H3 a y v H4 ∧ D.nx σ H4
section
variable {X : Cx} {o i e value : Expr} {pos pos' tpos : Pos} {td ty tv : TE}
theorem pe_dget (hu : X.A.units + 1 < cLine) (ho : PE X o td) (hi : PE X i ty) (hs : NoSl i) : PE X (.Subscript o i pos) (tDGet td ty) := by
  intro pins s σ H Q I h
  refine subD_of PySem.F.slot_dict_getitem.lookup hs (thn (ho pins s σ H _ I h) fun u s1 ⟨x, H1, I1, rx, q1⟩ => thn (hi pins s1 σ H1 _ I1 q1) fun iv s2 ⟨y, H2, I2, ry, a, v, ex, g, q2⟩ => ?_)
  subst ex
  obtain rfl : u = Value.ref a := rx
  exact ⟨dict_typeIs I2 g, d_getItem hu I2 g ry fun w' s3 I3 rw' => ⟨v, H2, I3, rw', q2⟩⟩
theorem ps_dput (hu : X.A.units + 1 < cLine) (ho : PE X o td) (hi : PE X i ty) (hv : PE X value tv) (hs : swapsWith value (some (.Subscript o i pos')) pos.line X.env = pure false) :
    PS X (.Assign [.Subscript o i pos'] value pos) (sDPut td ty tv) := by
  intro pins s σ H D I h
  refine wpAny_Assign_Subscript (thn (hv pins s σ H _ I h) fun r s1 ⟨v, H1, I1, rv, q1⟩ => thn (ho pins s1 σ H1 _ I1 q1) fun u s2 ⟨x, H2, I2, rx, q2⟩ => thn (hi pins s2 σ H2 _ I2 q2) fun iv s3 ⟨y, H3, I3, ry, a, H4, ex, g, q3⟩ => ?_) hs
  subst ex
  obtain rfl : u = Value.ref a := rx
  exact d_setItem hu I3 g ry rv fun s4 I4 => ⟨σ, H4, I4, q3⟩
end
theorem dt_empty {P : Program} {w : World} {H : Hp} (h : Heap) (hb : sysModules < h.objs.size) : ObjOk P w H (h.push { cls := .type "dict", data := .dict #[] }) h.objs.size (.dT []) :=
  ⟨Nat.zero_le _, beq_eq_false_iff_ne.mpr (Ne.symm (Nat.ne_of_lt hb)), [], .nil, _, #[], 0, Heap.get?_push_size _ rfl, ⟨rfl, rfl, rfl⟩, rfl, rfl, List.nodup_nil⟩
def tDNewT : TE := fun _ H Q => ∀ p, H p = none → Q (.ref p) (upd H p (.dT []))
section
variable {X : Cx} {pos : Pos}
theorem pe_dnewT : PE X (.Dict [] [] pos) tDNewT := fun pins s σ H Q I h =>
  wpAny_Dict_empty ⟨.ref s.heap.objs.size, _, I.laid (a := s.heap.objs.size) (o := .dT []) (t' := s.toks) (fun _ _ q => Heap.get?_push_of_some _ q) (Nat.le_refl _) (dt_empty s.heap I.big), rfl, h _ (I.hok.fresh (Nat.le_refl _))⟩
end
structure M2 (X : Cx) (o : Expr) (m : Str) (apos : Pos) (e f : Expr) (cpos : Pos) : Prop where
  base : attributeBase o m X.env (eval o X.env) = eval o X.env
  few : ((backTo cpos (starEach [e, f] X.env)).all (fun x => !x.1) && (backToKw cpos (keywordEach [] X.env)).all (fun x => x.1.isSome)
    && decide (([e, f] : List Expr).length + ([] : List Keyword).length + (if ([] : List Keyword).isEmpty then 0 else 1) < 30)) = true
  line : (apos.endLine == cpos.line) = true
  trees : backTo cpos (starEach [e, f] X.env) = [(false, eval e X.env), (false, eval f X.env)]
def IsD (H : Hp) (a : Addr) : Prop := (∃ kvs, Rd H a (.dK kvs)) ∨ ∃ kvs, Rd H a (.dT kvs)
theorem isD_at {X : Cx} {pins : List (Addr × Obj)} {σ : St} {H : Hp} {s : Shared} {a : Addr} (I : Inv X pins σ H s) (d : IsD H a) :
    s.TypeIs (.ref a) "dict" ∧ (∀ b, Value.ref a = .ref b → ∃ ob, s.heap.get? b = some ob ∧ ob.dict = none) ∧ (a == sysModules) = false := by
  rcases d with ⟨kvs, e⟩ | ⟨kvs, e⟩
  · obtain ⟨_, hd, vs, _, dd⟩ := dk_rd I.hok e
    refine ⟨dd.typeIs, fun b q => ?_, hd⟩
    cases q
    obtain ⟨ob, _, _, h1, h2, _⟩ := dd
    exact ⟨ob, h1, h2.2.1⟩
  · obtain ⟨_, hd, xs, _, dd⟩ := dt_rd I.hok e
    refine ⟨dd.typeIs, fun b q => ?_, hd⟩
    cases q
    obtain ⟨ob, _, _, h1, h2, _⟩ := dd
    exact ⟨ob, h1, h2.2.1⟩
section
variable {X : Cx} {pins : List (Addr × Obj)} {σ : St} {H : Hp} {s : Shared} {a : Addr} {y d : V} {u r : Value} {o : Option V} {A : Around} {E : Value → Shared → Prop}
theorem d_get2 {Q : Value → Shared → Prop} (hu : A.units + 1 < cLine) (I : Inv X pins σ H s) (g : DGet H a y o) (ry : RelV y u) (rd : RelV d r) (h : ∀ w' s', Inv X pins σ H s' → RelV (o.getD d) w' → Q w' s') :
    wpAny (model X.prog X.w) A (call (.builtin "dict.get") [.ref a, u, r]) Q E s := by
  rcases g with ⟨kvs, k, e, ey, l⟩ | ⟨kvs, k, b, e, ey, eb, l⟩
  · subst ey
    obtain ⟨z, hd, vs, rel, dd⟩ := dk_rd I.hok e
    refine call_meetsIn PySem.F.slot_dict_get dd.typeIs PySem.F.entry_dict_get (PySem.F.args_dict_get_3 _ _ _) (meets_dict_get_default (mixKind X.prog X.w) a (kV_is ry) hd r) ⟨_, dd.mapOf, h _ _ (I.tok _) ?_⟩
    rw [l]
    exact (rel.val k).getD rd
  · subst ey
    cases (show u = Value.ref b from ry)
    obtain ⟨z, hd, xs, rel, dd⟩ := dt_rd I.hok e
    refine call_meetsIn PySem.F.slot_dict_get dd.typeIs PySem.F.entry_dict_get (PySem.F.args_dict_get_3 _ _ _) (meetsH_dict_get_default (tupleKind (mixKind X.prog X.w)) a b hd r) ⟨tupleKind_room_in1 hu, k, xs, key_of I.hok eb, dd, h _ _ (I.tok _) ?_⟩
    rw [l]
    exact (rel.val k).getD rd
end
def tDGet2 (td ty tx : TE) : TE := fun σ H Q => td σ H fun x H1 => ∃ a, x = .ref a ∧ IsD H1 a ∧ ty σ H1 fun y H2 => tx σ H2 fun z H3 => ∃ o, DGet H3 a y o ∧ Q (o.getD z) H3
section
variable {X : Cx} {o e f : Expr} {apos cpos : Pos} {td ty tx : TE}
theorem pe_dget2 (hu : X.A.units + 1 < cLine) (ho : PE X o td) (he : PE X e ty) (hf : PE X f tx) (m : M2 X o "get" apos e f cpos) : PE X (.Call (.Attribute o "get" apos) [e, f] [] cpos) (tDGet2 td ty tx) := by
  intro pins s σ H Q I h
  refine wpAny_Call_method m.base m.few m.line PySem.F.plainAttrs_dict PySem.F.slot_dict_get PySem.F.type_dict_get (thn (ho pins s σ H _ I h) fun u s1 ⟨x, H1, I1, rx, a, ex, d, q1⟩ => ?_)
  subst ex
  obtain rfl : u = Value.ref a := rx
  obtain ⟨t1, t2, _⟩ := isD_at I1 d
  refine ⟨t1, t2, ?_⟩
  rw [m.trees]
  refine Calls.callWith_builtin rfl (Calls.evalArgs_plain (Calls.spliced_cons (thn (he pins s1 σ H1 _ I1 q1) fun iv s2 ⟨y, H2, I2, ry, q2⟩ =>
    Calls.spliced_cons (thn (hf pins s2 σ H2 _ I2 q2) fun fv s3 ⟨z, H3, I3, rz, ov, g, q3⟩ => Calls.spliced_nil ?_))))
  exact d_get2 hu I3 g ry rz fun w' s4 I4 rw' => ⟨_, H3, I4, rw', q3⟩
end
section
variable {X : Cx} {pins : List (Addr × Obj)} {σ : St} {H : Hp} {s : Shared} {a : Addr} {kvs : List (Key × V)} {A : Around} {E : Value → Shared → Prop}
end
section
variable {X : Cx} {pins : List (Addr × Obj)} {σ : St} {H : Hp} {s : Shared} {a : Addr} {y : V} {u : Value} {A : Around} {E : Value → Shared → Prop}
end
end L2
namespace Att
open PySem PySem.W PySem.Calls PyProof.Rows
section
variable {prog : Program} {w : World} {A : Around} {E : Value → Shared → Prop} {s : Shared} {K : Frag}
end
end Att
namespace L2
open PySem PySem.Spec PyProof.Rows
end L2
namespace L2
open PySem PySem.Spec PyProof.Rows
end L2
namespace L2
open PySem PySem.Spec PyProof.Rows
section
variable {P : Program} {w : World} {K : PySem.W.Frag} {mg : Str → Option Value} {base : Heap}
end
section
variable {X : Cx}
end
section
variable {κ : Type} [DecidableEq κ]
end
end L2
set_option Elab.async false
set_option linter.all false
set_option maxRecDepth 100000
set_option maxHeartbeats 4000000
namespace VT
open PySem PySem.Spec PyProof.Rows L2
def keyT : T → Option Key
  | .int i => some (.inl i)
  | .str x => some (.inr x)
  | _ => none
theorem keyT_at {K : PySem.W.Frag} {H : Hp} {A : List Addr} {t : T} {v : V} {k : Key} (h : AtR K H A t v) (e : keyT t = some k) : v = kV k := by
  cases t with
  | int i => cases e; exact h.int
  | str x => cases e; exact h.str
  | _ => cases e
section
variable {X : Cx} {Z : Zc} {e a b : Expr} {fa fb fc : FE} {pos : Pos}
end
end VT
set_option Elab.async false
set_option linter.all false
set_option maxRecDepth 100000
set_option maxHeartbeats 4000000
namespace VT
open PySem PySem.Spec PyProof.Rows L2
section
variable {X : Cx}
theorem sorted_laid {pins : List (Addr × Obj)} {σ : St} {H : Hp} {s : Shared} {us : List Value} {out : Array Value} {xs : List V} {Q : VK} (I : Inv X pins σ H s) (hx : Vals xs out.toList) (hl : xs.length ≤ sizeLine) (q : ∀ a, H a = none → Q (.ref a) (upd H a (.lst xs))) :
    EP X pins σ Q (.ref (s.heap.objs.size + 1)) { s with heap := sortedAll s.heap us out } := by
  obtain ⟨e, he⟩ := sortedAll_at s.heap us out
  refine ⟨.ref (s.heap.objs.size + 1), _, I.laid (a := s.heap.objs.size + 1) (o := .lst xs) (t' := s.toks) (fun b o h => sortedAll_old h) (Nat.le_succ _) ⟨hl, out.toList, e, hx, ?_⟩, rfl, q _ (I.hok.fresh (Nat.le_succ _))⟩
  rw [he]
end
section
variable {K : PySem.W.Frag} {H : Hp} {A : List Addr}
end
end VT
set_option Elab.async false
set_option linter.all false
set_option maxRecDepth 100000
set_option maxHeartbeats 4000000
namespace PySem
open Sem (wp)
section
variable {prog : Program} {w : World} {A : Around} {E : Value → Shared → Prop} {s : Shared}
variable {it d : Addr} {o : Obj} {es : Array DictEntry} {ep i : Nat}
theorem wpAny_pyIter_dictO {Q : Value → Shared → Prop} (hm : (d == sysModules) = false) (ho : s.heap.get? d = some o) (hc : o.cls = .type "dict") (hd : o.data = .dict es ep)
    (hQ : Q (.ref s.heap.objs.size) { s with heap := s.heap.push { cls := .type "dict_keyiterator", data := .fields #[.ref d, .int 0 0, .int es.size 0, .int ep 0] } }) : wpAny (model prog w) A (pyIter (.ref d)) Q E s := by
  have hT : s.TypeIs (.ref d) "dict" := ⟨o, ho, hc⟩
  refine wpAny_pyIter_slot hT F.slot_dict_iter (wpAny_call_entry F.slot_dict_iter hT F.entry_dict_iter ?_ (F.args_dict_iter_1 _))
  unfold Builtin.«dict.__iter__»
  refine wpAny_bind ?_
  unfold Builtin.Dict.dictSlotNone Builtin.Dict.notOrdered
  refine wpAny_bind ?_
  rw [if_pos (by decide +kernel)]
  refine wpAny_bind (wpAny_typeOf hT ?_)
  rw [if_neg (by decide +kernel)]
  refine wpAny_pure ?_
  refine wpAny_bind (wpAny_pure ?_)
  refine wpAny_pure ?_
  refine wpAny_bind (wpAny_pure ?_)
  unfold Builtin.Dict.showsAll
  rw [if_neg (by rw [hm]; decide)]
  refine wpAny_bind (wpAny_pure ?_)
  refine wpAny_bind (wpAny_dictEntries ho hd ?_)
  refine wpAny_bind (wpAny_dictEpoch ho hd ?_)
  refine wpAny_bind (wpAny_newObj_type (wpAny_pure ⟨_, rfl, "dict_keyiterator", _, ⟨_, Heap.get?_push_size _ rfl, rfl⟩, F.slot_dict_keyiterator_next.lookup, ?_⟩))
  exact hQ
theorem wpAny_pyNext_dictO {Q : Option Value → Shared → Prop} (hit : s.heap.IsKeyIter it d i es.size ep) (ho : s.heap.get? d = some o) (hd : o.data = .dict es ep) {e : DictEntry} (he : es[i]? = some e)
    (h : ∀ h', h'.IsKeyIter it d (i + 1) es.size ep → Heap.SameBut it s.heap h' → Q (some e.key) { s with heap := h' }) : wpAny (model prog w) A (pyNext (.ref it)) Q E s := by
  obtain ⟨oi, hoi, hci, hdi⟩ := id hit
  unfold pyNext
  refine wpAny_bind (wpAny_attempt (wpAny_callSpecial?_slot (name := Str.ofString "__next__") hit.typeIs F.slot_dict_keyiterator_next
    (wpAny_call_entry F.slot_dict_keyiterator_next hit.typeIs F.entry_dict_keyiterator_next ?_ (F.args_dict_keyiterator_next_1 _))))
  unfold Builtin.«dict_keyiterator.__next__»
  wp_delta
  refine wpAny_bind (wpAny_bind (wpAny_pure ?_))
  refine wpAny_pure ?_
  dsimp only
  have hT := hit.typeIs
  refine wpAny_bind ?_
  wp_delta
  refine wpAny_bind ?_
  wp_delta
  refine wpAny_bind (wpAny_typeNameOfWhole_keyiter hT ?_)
  refine wpAny_pure ?_
  rw [if_neg (by decide +kernel)]
  refine wpAny_bind (wpAny_fieldsOf hoi hdi ?_)
  show wpAny _ _ (if (Value.ref d == Value.none) = true then _ else _) _ _ _
  rw [if_neg (by simp)]
  refine wpAny_bind (wpAny_pure ?_)
  refine wpAny_bind (wpAny_dictEntries ho hd ?_)
  dsimp only
  rw [if_neg (by simp)]
  refine wpAny_bind (wpAny_pure ?_)
  refine wpAny_bind (wpAny_dictEpoch ho hd ?_)
  rw [if_neg (by simp)]
  refine wpAny_pure ?_
  dsimp only
  rw [if_neg (by omega), show ((i : Int)).toNat = i from Int.toNat_natCast i, he]
  dsimp only
  refine wpAny_bind ?_
  wp_delta
  refine wpAny_bind (wpAny_typeNameOfWhole_keyiter hT ?_)
  refine wpAny_pure ?_
  rw [if_neg (by decide +kernel)]
  refine wpAny_bind (wpAny_isOneOf_keyiter hT ?_)
  rw [if_neg (by decide +kernel)]
  refine wpAny_bind (wpAny_setField hoi hdi (by simp) ?_)
  have g1 := Heap.get?_update_self (Obj.mapFields (·.setIfInBounds (0 + 1) (rawInt ((i : Int) + 1)))) hoi (Obj.isFreed_of_fields (Obj.data_mapFields hdi _))
  have hit' : (s.heap.update it (Obj.mapFields (·.setIfInBounds (0 + 1) (rawInt ((i : Int) + 1))))).IsKeyIter it d (i + 1) es.size ep :=
    ⟨_, g1, (Obj.cls_mapFields ..).trans hci, by rw [Obj.data_mapFields hdi]; simp [rawInt]⟩
  refine wpAny_bind (wpAny_holding ?_)
  wp_delta
  refine wpAny_bind (wpAny_isOneOf_keyiter (s := { s with heap := _ }) hit'.typeIs ?_)
  rw [if_pos (by decide +kernel)]
  refine wpAny_pure ?_
  exact wpAny_pure ⟨_, rfl, wpAny_pure (h _ hit' (Heap.SameBut.update ..))⟩
theorem wpAny_pyNext_dictOEnd {Q : Option Value → Shared → Prop} (hh : A.handled = none) (hit : s.heap.IsKeyIter it d i es.size ep) (ho : s.heap.get? d = some o) (hd : o.data = .dict es ep) (he : es[i]? = none)
    (h : ∀ h', Heap.ExtBut it s.heap h' → Q none { s with heap := h' }) : wpAny (model prog w) A (pyNext (.ref it)) Q E s := by
  obtain ⟨oi, hoi, hci, hdi⟩ := id hit
  unfold pyNext
  refine wpAny_bind (wpAny_attempt (wpAny_callSpecial?_slot (name := Str.ofString "__next__") hit.typeIs F.slot_dict_keyiterator_next
    (wpAny_call_entry F.slot_dict_keyiterator_next hit.typeIs F.entry_dict_keyiterator_next ?_ (F.args_dict_keyiterator_next_1 _))))
  unfold Builtin.«dict_keyiterator.__next__»
  wp_delta
  refine wpAny_bind (wpAny_bind (wpAny_pure ?_))
  refine wpAny_pure ?_
  dsimp only
  have hT := hit.typeIs
  refine wpAny_bind ?_
  wp_delta
  refine wpAny_bind ?_
  wp_delta
  refine wpAny_bind (wpAny_typeNameOfWhole_keyiter hT ?_)
  refine wpAny_pure ?_
  rw [if_neg (by decide +kernel)]
  refine wpAny_bind (wpAny_fieldsOf hoi hdi ?_)
  show wpAny _ _ (if (Value.ref d == Value.none) = true then _ else _) _ _ _
  rw [if_neg (by simp)]
  refine wpAny_bind (wpAny_pure ?_)
  refine wpAny_bind (wpAny_dictEntries ho hd ?_)
  dsimp only
  rw [if_neg (by simp)]
  refine wpAny_bind (wpAny_pure ?_)
  refine wpAny_bind (wpAny_dictEpoch ho hd ?_)
  rw [if_neg (by simp)]
  refine wpAny_pure ?_
  dsimp only
  rw [if_neg (by omega), show ((i : Int)).toNat = i from Int.toNat_natCast i, he]
  dsimp only
  refine wpAny_bind ?_
  wp_delta
  refine wpAny_bind (wpAny_typeNameOfWhole_keyiter hT ?_)
  refine wpAny_pure ?_
  rw [if_neg (by decide +kernel)]
  refine wpAny_bind (wpAny_setField hoi hdi (by simp) ?_)
  refine wpAny_bind ?_
  simp only [newExc, newTuple]
  refine wpAny_bind (wpAny_newObj_type ?_ (by size_fits))
  refine wpAny_bind (m := firstArgMember _ _) (wpAny_of_eq (a := Value.none) (by first | rfl | (simp only [firstArgMember]; rfl)) ?_)
  refine wpAny_newObj_type ?_ (by size_fits)
  simp only [raiseNew]
  refine wpAny_bind (wpAny_handled ?_)
  rw [show A.in1.handled = none from hh]
  refine wpAny_bind (wpAny_pure (wpAny_throw ?_))
  refine wpAny_bind (wpAny_isInstance (T := "StopIteration") (b := true) ⟨_, Heap.get?_push_size _ rfl, rfl⟩ isSubtype_stop ?_)
  exact wpAny_pure (h _ (((Heap.SameBut.update ..).extBut.push _).push _))
theorem wpAny_pyIter_keyO {n : Nat} {Q : Value → Shared → Prop} (hit : s.heap.IsKeyIter it d i n ep) (hQ : Q (.ref it) s) : wpAny (model prog w) A (pyIter (.ref it)) Q E s := by
  refine wpAny_pyIter_slot hit.typeIs F.slot_dict_keyiterator_iter (wpAny_call_entry F.slot_dict_keyiterator_iter hit.typeIs F.entry_dict_keyiterator_iter ?_ (F.args_dict_keyiterator_iter_1 _))
  exact wpAny_pure ⟨_, rfl, "dict_keyiterator", _, hit.typeIs, F.slot_dict_keyiterator_next.lookup, hQ⟩
end
end PySem
namespace VT
open PySem PySem.Spec PyProof.Rows L2
def kAd (o : Obj) (i : Nat) : Addr := match o.data with
  | .dict es _ => match es[i]? with
    | some e => match e.key with
      | .ref b => b
      | _ => 0
    | none => 0
  | _ => 0
def FzD (H : Hp) (a : Addr) (o : Obj) (ks : List (List Key)) : Prop := ∃ vs : List V, ks.length = vs.length ∧ H a = some (.frz o (.dT (ks.zip vs)))
theorem FzD.known {P : Program} {w : World} {H : Hp} {h : Heap} {a : Addr} {o : Obj} {ks : List (List Key)} (ok : HOk P w H h) (z : FzD H a o ks) : h.get? a = some o ∧ (a == sysModules) = false ∧ o.cls = .type "dict" ∧ ∃ es ep, o.data = .dict es ep ∧ es.size = ks.length ∧
    ∀ (i : Nat) (k : List Key), ks[i]? = some k → H (kAd o i) = some (.tup (k.map kV)) ∧ ∃ e, es[i]? = some e ∧ e.key = .ref (kAd o i) := by
  obtain ⟨vs, hl, ha⟩ := z
  obtain ⟨ho, _, hm, xs, hx, o', es, ep, h1, h2, h3, h4, h5⟩ := (show ObjOk P w H h a (.frz o (.dT (ks.zip vs))) from ok a _ ha)
  rw [ho] at h1
  cases h1
  have hz : es.size = ks.length := by
    have e1 := Paired.length hx
    rw [List.length_zip, hl, Nat.min_self] at e1
    rw [← Array.length_toList, h4, List.length_map, hl]
    exact e1.symm
  refine ⟨ho, hm, h2.1, es, ep, h3, hz, fun i k hk => ?_⟩
  have hi : i < ks.length := (List.getElem?_eq_some_iff.mp hk).1
  have hv : vs[i]? = some (vs[i]'(by omega)) := List.getElem?_eq_getElem _
  have hp : (ks.zip vs)[i]? = some (k, vs[i]'(by omega)) := by rw [List.getElem?_zip_eq_some]; exact ⟨hk, hv⟩
  obtain ⟨q, hq, e1, e2, e3⟩ := paired_getL hx hp
  have he : es[i]? = some (entryOfKey (tupleKind (mixKind P w)) q) := by
    rw [← Array.getElem?_toList, h4, List.getElem?_map, hq]; rfl
  have ek : kAd o i = q.2.1 := by unfold kAd; rw [h3]; dsimp only; rw [he]; rfl
  rw [ek]
  exact ⟨e2, _, he, rfl⟩
def Itd (a : Addr) (o : Obj) (ks : List (List Key)) : It :=
  ⟨fun i H => FzD H a o ks ∧ i < ks.length, fun i H x H' => H' = H ∧ ∃ k, ks[i]? = some k ∧ x = .ref (kAd o i) ∧ H (kAd o i) = some (.tup (k.map kV)), fun i H => FzD H a o ks ∧ ks.length = i⟩
theorem turn_dict {P : Program} {w : World} {K : PySem.W.Frag} {tg : Expr} {o : Obj} {es : Array DictEntry} {ep : Nat} (ks : List (List Key)) (a it : Addr) (hd : o.data = .dict es ep) : Turn P w K tg (Itd a o ks) [it] it (fun i h => h.IsKeyIter it a i es.size ep) where
  mem := by simp
  obj := fun i h st b hb => by
    have e : b = it := by simpa using hb
    subst e
    obtain ⟨o, e, c, d⟩ := st
    exact ⟨o, e, fun v z => by rw [d] at z; cases z⟩
  keep := fun i h h' st k => st.at fun o e => k it (by simp) o e
  item := by
    intro X hP hw hK hc i pins s σ H E I hf st hg
    subst hP hw hK
    obtain ⟨ha, hi⟩ := hg
    obtain ⟨ho, _, _, es', ep', h3, hz, hk⟩ := ha.known I.hok
    rw [hd] at h3
    cases h3
    obtain ⟨hb, e, he, ek⟩ := hk i _ (List.getElem?_eq_getElem hi)
    obtain ⟨f0, f1, f2, f3, f4, f5⟩ := hf it (by simp)
    refine wpAny_pyNext_dictO st ho hd he fun h' st' sb => ?_
    have I1 : Inv X pins σ H { s with heap := h' } := I.turned (t' := s.toks) (fun b o hb e => (sb.2 b hb).trans e) f0 f1 f3 f4 f5
    obtain ⟨oi, e1, c, d⟩ := id st'
    rw [ek]
    exact ⟨_, rfl, go_of (s := { s with heap := h' }) e1 c d (by decide) ⟨.ref (kAd o i), H, I1, rfl, ⟨rfl, _, List.getElem?_eq_getElem hi, rfl, hb⟩, st', fun b hb => (hf b hb).1⟩⟩
  done := by
    intro X hP hw hK hc i pins s σ H E I hf st hg
    subst hP hw hK
    obtain ⟨ha, hi⟩ := hg
    obtain ⟨ho, _, _, es', ep', h3, hz, hk⟩ := ha.known I.hok
    rw [hd] at h3
    cases h3
    obtain ⟨f0, f1, f2, f3, f4, f5⟩ := hf it (by simp)
    exact wpAny_pyNext_dictOEnd (I.ok.hd hc) st ho hd (Array.getElem?_eq_none (by omega)) fun h' eb => ⟨rfl, I.turned (t' := s.toks) (fun b o hb e => eb b o hb e) f0 f1 f3 f4 f5⟩
  self := fun _ _ _ _ _ st h => wpAny_pyIter_keyO st h
def iDict (tl : TE) : TI := fun σ H R => tl σ H fun x H1 => ∃ a o ks, x = .ref a ∧ FzD H1 a o ks ∧ R (Itd a o ks) H1
theorem pi_dict {X : Cx} {tg l : Expr} {tl : TE} (hl : PE X l tl) : PI X tg l (iDict tl) := by
  intro pins s σ H R I h
  refine thn (hl pins s σ H _ I h) fun v s1 ⟨x, H1, I1, r1, a, o, ks, e, ha, q⟩ => ?_
  subst e
  cases r1
  obtain ⟨ho, hm, hc, es, ep, h3, hz, hk⟩ := ha.known I1.hok
  refine wpAny_pyIter_dictO hm ho hc h3 ?_
  refine ⟨s1.heap.objs.size, [s1.heap.objs.size], _, _, H1, rfl, I1.kept (t' := s1.toks) fun b o e => Heap.get?_push_of_some _ e, turn_dict ks a _ h3, ⟨_, Heap.get?_push_size _ rfl, rfl, rfl⟩, fun b hb => ?_, q⟩
  have e : b = s1.heap.objs.size := by simpa using hb
  subst e
  exact I1.fpOk (Nat.le_refl _) (I1.hok.fresh (Nat.le_refl _))
def kT : Key → T
  | .inl i => .int i
  | .inr x => .str x
def ktT (k : List Key) : T := .tup (k.map kT)
theorem at_kT {K : PySem.W.Frag} {H : Hp} {A : List Addr} (k : Key) : At K H A (kT k) (kV k) := by cases k <;> simp only [kT, kV, At]
theorem at_kTs {K : PySem.W.Frag} {H : Hp} {A : List Addr} : ∀ k : List Key, AtL K H A (k.map kT) (k.map kV)
  | [] => AtL.nil
  | k :: ks => AtL.cons (at_kT k) (at_kTs ks)
theorem at_ktT {K : PySem.W.Frag} {H : Hp} {A : List Addr} {b : Addr} {k : List Key} (h : H b = some (.tup (k.map kV))) : At K H A (ktT k) (.ref b) := at_tup (SqT.of h) (at_kTs k)
def pinT (o : Obj) (ks : List (List Key)) : List T := ks.zipIdx.map fun p => .pin (kAd o p.2) (ktT p.1)
theorem pinT_len (o : Obj) (ks : List (List Key)) : (pinT o ks).length = ks.length := by unfold pinT; simp
theorem pinT_get (o : Obj) (ks : List (List Key)) (i : Nat) : (pinT o ks)[i]? = ks[i]?.map fun k => .pin (kAd o i) (ktT k) := by
  unfold pinT
  rw [List.getElem?_map, List.getElem?_zipIdx]
  cases ks[i]? <;> simp
theorem df_fz {K : PySem.W.Frag} {H : Hp} {A : List Addr} {o : Obj} {ks : List (List Key)} {ts : List T} {a : Addr} (h : At K H A (.df o ks ts) (.ref a)) : FzD H a o ks := by
  simp only [At] at h
  obtain ⟨b, vs, e, hl, hd, _⟩ := h
  cases e
  exact ⟨vs, hl, hd.1⟩
theorem wk_dict {K : PySem.W.Frag} {a : Addr} {o : Obj} {ks : List (List Key)} {ts : List T} : Wk K (Itd a o ks) [(.df o ks ts, .ref a)] (ks.map ktT) := fun H A hA h i => by
  have z := df_fz (h _ List.mem_cons_self)
  refine ⟨fun hi => ⟨z, by simpa using hi⟩, fun hi => ⟨z, by simpa using hi⟩, fun t ht x H' y => ?_⟩
  obtain ⟨rfl, k, hk, rfl, hb⟩ := y
  rw [List.getElem?_map, hk] at ht
  cases ht
  exact ⟨Same.refl _, at_ktT hb⟩
theorem wk_dictP {K : PySem.W.Frag} {a : Addr} {o : Obj} {ks : List (List Key)} {ts : List T} : Wk K (Itd a o ks) [(.df o ks ts, .ref a)] (pinT o ks) := fun H A hA h i => by
  have z := df_fz (h _ List.mem_cons_self)
  rw [pinT_len]
  refine ⟨fun hi => ⟨z, hi⟩, fun hi => ⟨z, hi⟩, fun t ht x H' y => ?_⟩
  obtain ⟨rfl, k, hk, rfl, hb⟩ := y
  rw [pinT_get, hk] at ht
  cases ht
  refine ⟨Same.refl _, ?_⟩
  unfold At
  exact ⟨rfl, at_ktT hb⟩
section
variable {X : Cx} {Z : Zc} {tg l : Expr}
def fKeys (f : FE) : FI := fun ρ Q => f ρ fun t => match t with
  | .df _ ks _ => Q (ks.map ktT)
  | _ => False
def fKeysP (f : FE) : FI := fun ρ Q => f ρ fun t => match t with
  | .df o ks _ => Q (pinT o ks)
  | _ => False
theorem vi_dict {f : FE} (h : VE X Z l f) : VI X Z tg l (fKeys f) := .mk fun tm => PI.weak (pi_dict (h tm)) fun σ H R ⟨ρ, O, q, I, hf, k⟩ => ⟨ρ, O, _, I, hf, fun t ht v H' s a => by
  cases t with
  | df o ks ts =>
    obtain ⟨b, rfl⟩ : ∃ b, v = .ref b := by simp only [At] at a; obtain ⟨b, _, e, _⟩ := a; exact ⟨b, e⟩
    exact ⟨b, o, ks, rfl, df_fz a, k _ ht _ H' _ s (fun p hp => by rw [List.mem_singleton.mp hp]; exact a) wk_dict⟩
  | _ => exact ht.elim⟩
theorem vi_dictP {f : FE} (h : VE X Z l f) : VI X Z tg l (fKeysP f) := .mk fun tm => PI.weak (pi_dict (h tm)) fun σ H R ⟨ρ, O, q, I, hf, k⟩ => ⟨ρ, O, _, I, hf, fun t ht v H' s a => by
  cases t with
  | df o ks ts =>
    obtain ⟨b, rfl⟩ : ∃ b, v = .ref b := by simp only [At] at a; obtain ⟨b, _, e, _⟩ := a; exact ⟨b, e⟩
    exact ⟨b, o, ks, rfl, df_fz a, k _ ht _ H' _ s (fun p hp => by rw [List.mem_singleton.mp hp]; exact a) wk_dictP⟩
  | _ => exact ht.elim⟩
end
end VT
set_option Elab.async false
set_option linter.all false
set_option maxRecDepth 100000
set_option maxHeartbeats 4000000
namespace VT
open PySem PySem.Spec PyProof.Rows L2
section
variable {X : Cx} {Z : Zc}
theorem pss_ice {rest : List Stmt} {t : TS} (h : PSs X rest t) : PSs X rest (fun D σ H => ∃ a kvs, H a = some (.dT kvs) ∧ ∀ o, t D σ (upd H a (.frz o (.dT kvs)))) := by
  intro pins s σ H D I hq
  obtain ⟨a, kvs, ha, k⟩ := hq
  obtain ⟨z, y, xs, r, o, es, ep, h1, h2, h3, h4, h5⟩ := (show ObjOk X.prog X.w H s.heap a (.dT kvs) from I.hok a _ ha)
  have new : ObjOk X.prog X.w (upd H a (.frz o (.dT kvs))) s.heap a (.frz o (.dT kvs)) := by
    refine ⟨h1, z, y, xs, Paired.mapP r fun p q ⟨e1, e2, e3⟩ => ⟨e1, ?_, e3⟩, o, es, ep, h1, h2, h3, h4, h5⟩
    rw [upd_ne]
    · exact e2
    · intro e; rw [e, ha] at e2; cases e2
  have I' : Inv X pins σ (upd H a (.frz o (.dT kvs))) { s with heap := s.heap, toks := s.toks } := I.write (x := a) (e := a) (by rw [ha]; trivial) (.inl rfl) (fun b u _ q => q) ⟨o, h1⟩ new
  exact h pins s σ _ D I' (k o)
theorem EnvAt.ice {K : PySem.W.Frag} {tm : List (T × V)} {O : List (Option Addr)} {ρ : En} {σ : St} {H : Hp} (I : EnvAt K Z tm O ρ σ H) {i : Nat} {ks : List (List Key)} {ts : List T} (hp : NotPar Z i) (hi : ρ[i]? = some (some (.dt ks ts, true))) :
    ∃ a vs, H a = some (.dT (ks.zip vs)) ∧ ∀ o, EnvAt K Z tm (O.set i none) (ρ.set i (some (.df o ks ts, false))) σ (upd H a (.frz o (.dT (ks.zip vs)))) := by
  obtain ⟨o', s, h1, h2, a, rfl, rfl, vs, hl, e0, q0⟩ := I.sl i _ hi
  have ha : a ∈ roots O := mem_roots.mpr (List.mem_of_getElem? h1)
  have hav : a ∈ av Z O := List.mem_append_left _ ha
  obtain ⟨hP, hx, _⟩ := I.own a ha
  refine ⟨a, vs, e0, fun o => ?_⟩
  have apart : ∀ b, b ∈ roots (O.set i none) → b ≠ a := fun b hb e => by
    subst e
    obtain ⟨j, hj⟩ := List.mem_iff_getElem?.mp (mem_roots.mp hb)
    rcases get_set hj with ⟨_, z, _⟩ | ⟨ne, z⟩
    · cases z
    · exact ne (inj_O I z h1)
  have nav : a ∉ av Z (O.set i none) := fun z => by
    rcases List.mem_append.mp z with z | z
    · exact apart a z rfl
    · exact hx z
  have fw : ∀ {t : T} {v : V}, At K H (av Z O) t v → At K (upd H a (.frz o (.dT (ks.zip vs)))) (av Z (O.set i none)) t v := fun q => (At.wrote hav e0 rfl q).fewer (av_none_sub i)
  have fwL : ∀ {t : List T} {v : List V}, AtL K H (av Z O) t v → AtL K (upd H a (.frz o (.dT (ks.zip vs)))) (av Z (O.set i none)) t v := fun q => (AtL.wrote hav e0 rfl q).fewer (av_none_sub i)
  refine ⟨by simp [I.lσ], by simp [I.lO], fun j e h => ?_, nd_set_none _ _ I.nd, fun b h => ?_, fun p q => ?_, fun b h => ?_, fun b u e n => ?_, fun p q => fw (I.tmp p q)⟩
  · rcases get_set h with ⟨rfl, rfl, hl'⟩ | ⟨ne, h⟩
    · refine ⟨none, some (.ref a), by rw [List.getElem?_set_self (by rw [I.lO]; exact hl')], h2, rfl, .ref a, rfl, ?_⟩
      simp only [At]
      exact ⟨a, vs, rfl, hl, ⟨upd_same, nav⟩, fwL q0⟩
    · obtain ⟨o2, s, g1, g2, g3⟩ := I.sl j e h
      refine ⟨o2, s, by rw [List.getElem?_set_ne (Ne.symm ne)]; exact g1, g2, g3.map (fun _ _ q => fw q) fun b t eb q => ?_⟩
      subst eb
      refine q.map (upd_ne ?_) fun _ _ q => fwL q
      intro e; subst e
      exact ne (inj_O I g1 h1)
  · obtain ⟨g1, g2, u, g3, g4⟩ := I.own b (roots_set_sub i b h)
    exact ⟨g1, g2, u, by rw [upd_ne (apart b h)]; exact g3, g4⟩
  · rw [List.getElem?_set_ne (Ne.symm (hp p q))]; exact I.par p q
  · by_cases e : b = a
    · subst e; exact absurd h hx
    · rw [upd_ne e]; exact I.ox b h
  · rw [upd_ne]
    · exact I.keep b u e n
    · intro eb; subst eb
      rcases hP with z | z
      · exact n z
      · rw [z] at e; cases e
def gIce (i : Nat) (g : FS) : FS := fun d ρ => match ρ[i]? with
  | some (some (.dt ks ts, true)) => ∀ o, g d (ρ.set i (some (.df o ks ts, false)))
  | _ => False
theorem vss_ice {rest : List Stmt} {g : FS} (i : Nat) (hp : NotPar Z i) (h : VSs X Z rest g) : VSs X Z rest (gIce i g) := .mk fun tm => PSs.weak' (pss_ice (h tm)) fun D σ H ⟨ρ, O, d, I, q, F⟩ => by
  unfold gIce at q
  split at q
  · rename_i ks ts e
    obtain ⟨a, vs, e1, k⟩ := I.ice hp e
    exact ⟨a, _, e1, fun o => ⟨_, _, d, k o, q o, F⟩⟩
  · exact q.elim
end
def keysT : List T → Option (List Key)
  | [] => some []
  | t :: ts => match keyT t, keysT ts with
    | some k, some ks => some (k :: ks)
    | _, _ => none
theorem keysT_at {K : PySem.W.Frag} {H : Hp} {A : List Addr} : ∀ {ts : List T} {vs : List V} {k : List Key}, AtL K H A ts vs → keysT ts = some k → vs = k.map kV
  | [], vs, k, h, e => by
    simp only [AtL] at h
    cases e
    exact h
  | t :: ts, vs, k, h, e => by
    simp only [AtL] at h
    obtain ⟨v, r, rfl, h1, h2⟩ := h
    simp only [keysT] at e
    split at e
    · rename_i k' ks e1 e2
      cases e
      rw [keyT_at (.inl h1) e1, keysT_at h2 e2]; rfl
    · cases e
section
variable {κ α : Type} [DecidableEq κ]
def gGet : List κ → List α → κ → Option α
  | k :: ks, t :: ts, x => if k = x then some t else gGet ks ts x
  | _, _, _ => none
def gHas (ks : List κ) (x : κ) : Bool := ks.any fun k => decide (k = x)
def gKs (ks : List κ) (x : κ) : List κ := if gHas ks x = true then ks else ks ++ [x]
def gVs (ks : List κ) (ts : List α) (x : κ) (u : α) : List α := if gHas ks x = true then List.zipWith (fun k t => if k = x then u else t) ks ts else ts ++ [u]
theorem gGet_nil (ts : List α) (x : κ) : gGet [] ts x = none := by cases ts <;> rfl
theorem gGet_val : ∀ (ks : List κ) (vs : List V) (x : κ), valV (ks.zip vs) x = gGet ks vs x
  | [], vs, x => by rw [gGet_nil]; rfl
  | k :: ks, [], x => rfl
  | k :: ks, v :: vs, x => by
    simp only [gGet, List.zip_cons_cons]
    by_cases e : k = x
    · rw [if_pos e, valV_pos (p := (k, v)) e]
    · rw [if_neg e, valV_neg (p := (k, v)) e]; exact gGet_val ks vs x
theorem gGet_at {K : PySem.W.Frag} {H : Hp} {A : List Addr} : ∀ {ks : List κ} {ts : List T} {vs : List V} {x : κ}, AtL K H A ts vs → (∀ t, gGet ks ts x = some t → ∃ v, gGet ks vs x = some v ∧ At K H A t v) ∧ (gGet ks ts x = none → gGet ks vs x = none)
  | [], ts, vs, x, h => by
    rw [gGet_nil, gGet_nil]
    refine ⟨fun t e => ?_, fun _ => rfl⟩
    cases e
  | k :: ks, [], vs, x, h => by
    simp only [AtL] at h
    subst h
    exact ⟨fun t e => (by cases e), fun _ => rfl⟩
  | k :: ks, t :: ts, vs, x, h => by
    simp only [AtL] at h
    obtain ⟨v, r, rfl, h1, h2⟩ := h
    simp only [gGet]
    by_cases e : k = x
    · rw [if_pos e, if_pos e]
      exact ⟨fun t e => by cases e; exact ⟨v, rfl, h1⟩, fun q => by cases q⟩
    · rw [if_neg e, if_neg e]
      exact gGet_at h2
theorem gHas_zip (ks : List κ) (vs : List V) (x : κ) (hl : ks.length = vs.length) : ((ks.zip vs).any fun kv => decide (kv.1 = x)) = gHas ks x := by
  unfold gHas
  induction ks generalizing vs with
  | nil => rfl
  | cons k ks ih =>
    cases vs with
    | nil => simp at hl
    | cons v vs => rw [List.zip_cons_cons, List.any_cons, List.any_cons, ih vs (by simpa using hl)]
theorem g_zip (ks : List κ) (vs : List V) (x : κ) (v : V) : (ks.zip vs).map (fun kv => if kv.1 = x then (kv.1, v) else kv) = ks.zip (List.zipWith (fun k t => if k = x then v else t) ks vs) := by
  induction ks generalizing vs with
  | nil => rfl
  | cons k ks ih =>
    cases vs with
    | nil => rfl
    | cons u vs =>
      simp only [List.zip_cons_cons, List.map_cons, List.zipWith_cons_cons]
      rw [ih vs]
      by_cases e : k = x
      · rw [if_pos e, if_pos e]
      · rw [if_neg e, if_neg e]
theorem g_put (ks : List κ) (vs : List V) (x : κ) (v : V) (hl : ks.length = vs.length) : L2.putK (ks.zip vs) x v = (gKs ks x).zip (gVs ks vs x v) ∧ (gKs ks x).length = (gVs ks vs x v).length := by
  unfold L2.putK gKs gVs
  rw [gHas_zip ks vs x hl]
  by_cases e : gHas ks x = true
  · rw [if_pos e, if_pos e, if_pos e]
    exact ⟨g_zip ks vs x v, by simp [hl]⟩
  · rw [if_neg e, if_neg e, if_neg e]
    refine ⟨?_, by simp [hl]⟩
    rw [List.zip_append hl]
    rfl
theorem gVs_at {K : PySem.W.Frag} {H : Hp} {A : List Addr} {ks : List κ} {ts : List T} {vs : List V} {x : κ} {t : T} {v : V} (h : AtL K H A ts vs) (ht : At K H A t v) : AtL K H A (gVs ks ts x t) (gVs ks vs x v) := by
  unfold gVs
  by_cases e : gHas ks x = true
  · rw [if_pos e, if_pos e]
    clear e
    induction ks generalizing ts vs with
    | nil => simp only [List.zipWith_nil_left]; exact AtL.nil
    | cons k ks ih =>
      cases ts with
      | nil =>
        simp only [AtL] at h
        subst h
        simp only [List.zipWith_nil_right]
        exact AtL.nil
      | cons t0 ts =>
        simp only [AtL] at h
        obtain ⟨v0, r, rfl, h1, h2⟩ := h
        simp only [List.zipWith_cons_cons]
        refine AtL.cons ?_ (ih h2)
        by_cases q : k = x
        · rw [if_pos q, if_pos q]; exact ht
        · rw [if_neg q, if_neg q]; exact h1
  · rw [if_neg e, if_neg e]
    exact h.append (AtL.cons ht AtL.nil)
theorem gGet_or {K : PySem.W.Frag} {H : Hp} {A : List Addr} {ks : List κ} {ts : List T} {vs : List V} {k : κ} {z : T} {w : V} (h : AtL K H A ts vs) (hz : At K H A z w) : At K H A ((gGet ks ts k).getD z) ((gGet ks vs k).getD w) := by
  cases e : gGet ks ts k with
  | none => rw [(gGet_at h).2 e]; exact hz
  | some t => obtain ⟨v, e1, e2⟩ := (gGet_at h).1 t e; rw [e1]; exact e2
end
section
variable {X : Cx} {Z : Zc} {e a b : Expr} {es : List Expr} {fa fb fc : FE} {g : FA} {pos : Pos}
def fDNewT : FP := fun _ Q => Q (.fr (.dt [] []))
theorem vp_dnewT : VP X Z (.Dict [] [] pos) fDNewT := .mk fun tm => PE.weak pe_dnewT fun σ H Q ⟨ρ, O, q, I, hf, k⟩ p hp => by
  refine k _ hf _ _ (same_upd hp) ?_
  obtain ⟨n1, n2, n3⟩ := I.fresh hp
  exact ⟨p, rfl, I.new hp rfl, ⟨[], rfl, upd_same, AtL.nil⟩, n3, n2⟩
def gDPutT (n : Nat) (f : FE) (g : FA) : FS := fun d ρ => match ρ[n]? with
  | some (some (.dt ks ts, true)) => f ρ fun v => g ρ fun ys => match keysT ys with
    | some k => (ys.length ≤ sizeLine ∧ ts.length < 16777216) ∧ d.nx (ρ.set n (some (.dt (gKs ks k) (gVs ks ts k v), true)))
    | none => False
  | _ => False
theorem vs_dputT (n : Nat) {x : Str} {p : Pos} {f : FE} {x1} {tpos kpos : Pos} (hu : X.A.units + 1 < cLine) (he : VE X Z e f) (hi : VA X Z es g)
    (hN : X.N[n]? = some x := by rfl) (hv : Vis X.env.scope x := by first | exact Or.inl rfl | exact Or.inr (Or.inl rfl) | exact Or.inr (Or.inr rfl)) (hd : (x == ("__debug__" : Str)) = false := by decide)
    (hcd : (x == ("__classdict__" : Str)) = false := by decide) (hs : swapsWith e (some (.Subscript (.Name x p) (.Tuple es x1 kpos) tpos)) pos.line X.env = pure false := by rfl) :
    VS X Z (.Assign [.Subscript (.Name x p) (.Tuple es x1 kpos) tpos] e pos) (gDPutT n f g) := .mk fun tm =>
  PS.weak (ps_dput hu (pe_var hN hv hd hcd) (pe_tup (hi tm)) (he tm) hs) fun D σ H ⟨ρ, O, d, I, q, F⟩ => by
    unfold gDPutT at q
    split at q
    · rename_i ks ts e0
      obtain ⟨l, h1, h2, xs, hl, h3, h4⟩ := I.root e0
      have ha : l ∈ av Z O := List.mem_append_left _ (mem_roots.mpr (List.mem_of_getElem? h1))
      refine ⟨ρ, O, _, I, q, fun t ht v H1 s1 a1 => ⟨.ref l, h2, ρ, O, _, I.same s1, ht, fun ys hy ws H2 s2 a2 => ?_⟩⟩
      split at hy
      · rename_i kk ek
        obtain ⟨⟨hsz, hlen⟩, hj⟩ := hy
        refine ⟨by rw [a2.length]; exact hsz, fun p0 hp0 => ?_⟩
        have s3 : Same H2 (upd H2 p0 (.tup ws)) := same_upd hp0
        have h3' := s3 _ _ (s2 _ _ (s1 _ _ h3))
        have q := g_put ks xs kk v hl
        have hz : (ks.zip xs).length < sizeLine := by
          rw [sizeLine_eq, List.length_zip, hl, Nat.min_self, h4.length]
          omega
        have hb : upd H2 p0 (.tup ws) p0 = some (.tup (kk.map kV)) := by rw [keysT_at a2 ek]; exact upd_same
        refine ⟨l, _, rfl, DPut.t h3' hb hz, ?_⟩
        rw [q.1]
        refine F.nx O _ σ _ ((((I.same s1).same s2).same s3).wrote (t' := .dt (gKs ks kk) (gVs ks ts kk t)) e0 h1 ⟨gVs ks xs kk v, q.2, upd_same, ?_⟩) hj
        exact AtL.wrote ha h3' rfl (gVs_at (((h4.same s1).same s2).same s3) ((a1.same s2).same s3))
      · exact hy.elim
    · exact q.elim
def fDixT (fa : FE) (g : FA) : FP := fun ρ Q => fa ρ fun x => g ρ fun ys => match x, keysT ys with
  | .df _ ks ts, some k => ys.length ≤ sizeLine ∧ ∃ t, gGet ks ts k = some t ∧ Q (.vw t)
  | _, _ => False
theorem vp_dixT {x1} {kpos : Pos} (hu : X.A.units + 1 < cLine) (ha : VR X Z a fa) (hb : VA X Z es g) (hs : NoSl (.Tuple es x1 kpos) := by intro _ _; rfl) : VP X Z (.Subscript a (.Tuple es x1 kpos) pos) (fDixT fa g) := .mk fun tm => PE.weak (pe_dget hu (ha tm) (pe_tup (hb tm)) hs) fun σ H Q ⟨ρ, O, q, I, hf, k⟩ =>
  ⟨ρ, O, _, I, hf, fun x hx v H1 s1 a1 => ⟨ρ, O, _, I.same s1, hx, fun ys hy ws H2 s2 a2 => by
    split at hy
    · rename_i o ks ts kk e
      obtain ⟨hsz, t, e1, hq⟩ := hy
      refine ⟨by rw [a2.length]; exact hsz, fun p0 hp0 => ?_⟩
      have s3 : Same H2 (upd H2 p0 (.tup ws)) := same_upd hp0
      obtain ⟨l, vs, rfl, hl, hd, hv⟩ := ((a1.same s2).same s3).df
      obtain ⟨u, e2, e3⟩ := (gGet_at hv).1 t e1
      have hb : upd H2 p0 (.tup ws) p0 = some (.tup (kk.map kV)) := by rw [keysT_at a2 e]; exact upd_same
      exact ⟨l, u, rfl, .inr ⟨_, kk, p0, .inr ⟨o, hd⟩, rfl, hb, by rw [gGet_val, e2]⟩, k _ hq _ _ ((s1.trans s2).trans s3) ⟨((I.same s1).same s2).same s3, e3⟩⟩
    · exact hy.elim⟩⟩
def fDGT (fa : FE) (g : FA) (fc : FE) : FP := fun ρ Q => fa ρ fun x => match x with
  | .df _ ks ts => g ρ fun ys => match keysT ys with
    | some k => ys.length ≤ sizeLine ∧ fc ρ fun z => Q (.vw ((gGet ks ts k).getD z))
    | none => False
  | _ => False
theorem vp_dgT {c : Expr} {x1} {apos cpos kpos : Pos} (hu : X.A.units + 1 < cLine) (ha : VR X Z a fa) (hb : VA X Z es g) (hc : VE X Z c fc) (m : M2 X a "get" apos (.Tuple es x1 kpos) c cpos) : VP X Z (.Call (.Attribute a "get" apos) [.Tuple es x1 kpos, c] [] cpos) (fDGT fa g fc) := .mk fun tm => PE.weak (pe_dget2 hu (ha tm) (pe_tup (hb tm)) (hc tm) m) fun σ H Q ⟨ρ, O, q, I, hf, k⟩ =>
  ⟨ρ, O, _, I, hf, fun x hx v H1 s1 a1 => by
    split at hx
    · rename_i o ks ts
      obtain ⟨l, vs, rfl, hl, hd, hv⟩ := a1.df
      refine ⟨l, rfl, .inr ⟨_, .inr ⟨o, hd⟩⟩, ρ, O, _, I.same s1, hx, fun ys hy ws H2 s2 a2 => ?_⟩
      split at hy
      · rename_i kk e
        refine ⟨by rw [a2.length]; exact hy.1, fun p0 hp0 => ?_⟩
        have s3 : Same H2 (upd H2 p0 (.tup ws)) := same_upd hp0
        refine ⟨ρ, O, _, ((I.same s1).same s2).same s3, hy.2, fun z hz u H3 s4 a3 => ?_⟩
        have hb : H3 p0 = some (.tup (kk.map kV)) := s4 _ _ (by rw [← keysT_at a2 e]; exact upd_same)
        refine ⟨_, .inr ⟨_, kk, p0, .inr ⟨o, s4 _ _ (s3 _ _ (s2 _ _ hd))⟩, rfl, hb, rfl⟩, ?_⟩
        rw [gGet_val]
        exact k _ hz _ H3 (((s1.trans s2).trans s3).trans s4) ⟨(((I.same s1).same s2).same s3).same s4, gGet_or (((hv.same s2).same s3).same s4) a3⟩
      · exact hy.elim
    · exact hx.elim⟩
theorem pe_hok {t : TE} (h : PE X e t) : PE X e (fun σ H Q => t σ H fun v H1 => (∃ hp, HOk X.prog X.w H1 hp) → Q v H1) := by
  intro pins s σ H Q I hq
  exact thn (h pins s σ H _ I hq) fun v s1 ⟨x, H1, I1, r1, q⟩ => ⟨x, H1, I1, r1, q ⟨s1.heap, I1.hok⟩⟩
def fDixK (fa fb : FE) : FP := fun ρ Q => fa ρ fun x => fb ρ fun y => match x, y with
  | .df o ks ts, .pin b _ => ∃ i k t, b = kAd o i ∧ ks[i]? = some k ∧ gGet ks ts k = some t ∧ Q (.vw t)
  | _, _ => False
theorem vp_dixK (hu : X.A.units + 1 < cLine) (ha : VR X Z a fa) (hb : VR X Z b fb) (hs : NoSl b := by intro _ _; rfl) : VP X Z (.Subscript a b pos) (fDixK fa fb) := .mk fun tm => PE.weak (pe_dget hu (ha tm) (pe_hok (hb tm)) hs) fun σ H Q ⟨ρ, O, q, I, hf, k⟩ =>
  ⟨ρ, O, _, I, hf, fun x hx v H1 s1 a1 => ⟨ρ, O, _, I.same s1, hx, fun y hy w H2 s2 a2 => by
    intro hok
    split at hy
    · rename_i o ks ts b0 t0
      obtain ⟨i, kk, t, rfl, hi, e1, hq⟩ := hy
      obtain ⟨hp, hok⟩ := hok
      obtain ⟨l, vs, rfl, hl, hd, hv⟩ := (a1.same s2).df
      obtain ⟨u, e2, e3⟩ := (gGet_at hv).1 t e1
      obtain ⟨_, _, _, _, _, _, _, hk⟩ := FzD.known hok ⟨vs, hl, hd⟩
      have ew : w = .ref (kAd o i) := by
        rcases a2 with a2 | ⟨a, _, r⟩
        · simp only [At] at a2; exact a2.1
        · exact r.elim
      exact ⟨l, u, rfl, .inr ⟨_, kk, _, .inr ⟨o, hd⟩, ew, (hk i kk hi).1, by rw [gGet_val, e2]⟩, k _ hq _ H2 (s1.trans s2) ⟨(I.same s1).same s2, e3⟩⟩
    · exact hy.elim⟩⟩
def unpT : T → T
  | .pin _ t => t
  | t => t
def fUnp (f : FE) : FE := fun ρ Q => f ρ fun t => Q (unpT t)
theorem vr_unp (h : VR X Z e fa) : VR X Z e (fUnp fa) := .mk fun tm => PE.weak (h tm) fun σ H Q ⟨ρ, O, q, I, hf, k⟩ => ⟨ρ, O, _, I, hf, fun t ht v H' s z => by
  refine k _ ht v H' s ?_
  cases t with
  | pin b t =>
    rcases z with z | ⟨a, _, r⟩
    · simp only [At] at z; exact .inl z.2
    · exact r.elim
  | _ => exact z⟩
end
end VT
set_option Elab.async false
set_option linter.all false
set_option maxRecDepth 100000
set_option maxHeartbeats 4000000
namespace TS
open PySem PyProof.Rows
def Cmp (prog : Program) (w : World) (A : Around) (E : Value → Shared → Prop) (s : Shared) (kd : SortKind) (a₀ : Array Keyed) : Prop :=
  ∀ p ∈ a₀.toList, ∀ q ∈ a₀.toList, ∀ Q : Bool → Shared → Prop, (∀ b, Q b s) → wpAny (model prog w) A (keyLt' kd p.1 q.1) Q E s
structure SB (kd : SortKind) (a₀ : Array Keyed) (st : SortSt) : Prop where
  pm : (arrOf st).Perm a₀
  kn : kindOf st = kd
  fl : failedOf st = none
  pe : pendingOf st = #[]
section
variable {prog : Program} {w : World} {A : Around} {E : Value → Shared → Prop} {s : Shared} {a₀ : Array Keyed} {kd : SortKind} {st : SortSt}
theorem SB.sz (h : SB kd a₀ st) : (arrOf st).size = a₀.size := h.pm.size_eq
theorem SB.put (h : SB kd a₀ st) {xs : Array Keyed} (hp : xs.Perm (arrOf st)) : SB kd a₀ (setArr st xs) := ⟨hp.trans h.pm, h.kn, h.fl, h.pe⟩
theorem SB.get (h : SB kd a₀ st) {i : Nat} (hi : i < a₀.size) : ∃ p ∈ a₀.toList, (arrOf st)[i]? = some p := by
  have hi' : i < (arrOf st).size := by rw [h.sz]; exact hi
  refine ⟨(arrOf st)[i], (Array.perm_iff_toList_perm.mp h.pm).mem_iff.mp (by simp), getElem?_pos _ i hi'⟩
theorem ltP {i j : Nat} {Q : Option Bool → SortSt → Prop} (hC : Cmp prog w A (fun _ _ => False) s kd a₀) (hB : SB kd a₀ st) (hi : i < a₀.size) (hj : j < a₀.size) (h : ∀ b, Q (some b) st) :
    wpS (model prog w) A E s (ltAt' i j) Q st := by
  obtain ⟨p, mp, ep⟩ := hB.get hi
  obtain ⟨q, mq, eq⟩ := hB.get hj
  rw [ltAt'_eq]
  refine wpS_bind (wpS_get ?_)
  show wpS _ _ _ _ (elem' (arrOf st) i >>= fun x => elem' (arrOf st) j >>= fun y => lt' x y) Q st
  rw [elem'_eq, elem'_eq, ep, eq]
  refine wpS_bind (wpS_pure (wpS_bind (wpS_pure ?_)))
  rw [lt'_eq]
  refine wpS_bind (wpS_get ?_)
  rw [hB.kn]
  have hk := hC p mp q mq (fun b s' => s' = s ∧ Q (some b) st) (fun b => ⟨rfl, h b⟩)
  refine wpS_bind (wpS_lift (wpAny_attempt (wpAny_mono hk (fun b s' z => ⟨z.1, wpS_pure z.2⟩) fun _ _ z => z.elim)))
theorem ascP {a nrem : Nat} {Q : AscSt → SortSt → Prop} (hC : Cmp prog w A (fun _ _ => False) s kd a₀) (hB : SB kd a₀ st) (hn : nrem ≤ a₀.size) (ha : 1 ≤ a) (han : a ≤ nrem) (h : ∀ n, a ≤ n → n ≤ nrem → Q (none, n) st) :
    wpS (model prog w) A E s (ascLoop a nrem) Q st := by
  unfold ascLoop
  refine wpS_forRange (I := fun x c st' => st' = st ∧ c = (none, x)) ?_ ?_ ⟨rfl, rfl⟩
  · rintro x c st' h1 h2 ⟨rfl, rfl⟩
    dsimp only
    refine wpS_bind (ltP hC hB (by omega) (by omega) fun b => ?_)
    cases b with
    | true => exact wpS_pure (h x h1 (by omega))
    | false => exact wpS_pure ⟨rfl, rfl⟩
  · rintro c st' ⟨rfl, rfl⟩
    rw [Nat.max_eq_right han]
    exact h nrem han (Nat.le_refl _)
theorem tailP {n nrem : Nat} {Q : Option Nat → SortSt → Prop} (hC : Cmp prog w A (fun _ _ => False) s kd a₀) (hB : SB kd a₀ st) (hn : nrem ≤ a₀.size) (h1 : 1 ≤ n) (hnn : n ≤ nrem) (h : ∀ m st', SB kd a₀ st' → 1 ≤ m → m ≤ nrem → Q (some m) st') :
    wpS (model prog w) A E s (tail3 n nrem) Q st := by
  unfold tail3
  refine wpS_bind (wpS_reverse ?_)
  have hB' := hB.put (mirror_perm (arrOf st) 0 n ((n - 0) / 2))
  exact wpS_bind (ascP hC hB' hn h1 hnn fun m h2 h3 => wpS_pure (h m _ hB' (by omega) h3))
theorem descP {n nrem : Nat} {Q : DescSt → SortSt → Prop} (hC : Cmp prog w A (fun _ _ => False) s kd a₀) (hB : SB kd a₀ st) (hn : nrem ≤ a₀.size) (h1 : 1 ≤ n) (hnn : n ≤ nrem) (h : ∀ m e st', SB kd a₀ st' → n ≤ m → m ≤ nrem → Q (none, m, e) st') :
    wpS (model prog w) A E s (descLoop n nrem) Q st := by
  unfold descLoop
  refine wpS_forRange (I := fun x c st' => ∃ e, c = (none, x, e) ∧ SB kd a₀ st') ?_ ?_ ⟨0, rfl, hB⟩
  · rintro x c st' h2 h3 ⟨e, rfl, hB'⟩
    dsimp only
    refine wpS_bind (ltP hC hB' (by omega) (by omega) fun b => ?_)
    cases b with
    | true =>
      simp only [↓reduceIte]
      split
      · exact wpS_bind (wpS_reverse (wpS_pure ⟨0, rfl, hB'.put (mirror_perm _ _ _ _)⟩))
      · exact wpS_pure ⟨0, rfl, hB'⟩
    | false =>
      simp only [Bool.false_eq_true, ↓reduceIte]
      refine wpS_bind (ltP hC hB' (by omega) (by omega) fun b => ?_)
      cases b with
      | true => exact wpS_pure (h x e st' hB' h2 (by omega))
      | false => exact wpS_pure ⟨e + 1, rfl, hB'⟩
  · rintro c st' ⟨e, rfl, hB'⟩
    rw [Nat.max_eq_right hnn]
    exact h nrem e st' hB' hnn (Nat.le_refl _)
theorem partP {n nrem : Nat} {Q : Option Nat → SortSt → Prop} (hC : Cmp prog w A (fun _ _ => False) s kd a₀) (hB : SB kd a₀ st) (hn : nrem ≤ a₀.size) (hnn : n + 1 ≤ nrem) (h : ∀ m st', SB kd a₀ st' → 1 ≤ m → m ≤ nrem → Q (some m) st') :
    wpS (model prog w) A E s (descPart n nrem) Q st := by
  unfold descPart
  refine wpS_bind (wpS_lift (wpAny_rule ⟨rfl, ?_⟩))
  refine wpS_bind (descP hC hB hn (by omega) hnn fun m e st' hB' h2 h3 => ?_)
  dsimp only
  split
  · exact wpS_bind (wpS_reverse (tailP hC (hB'.put (mirror_perm _ _ _ _)) hn (by omega) h3 h))
  · exact tailP hC hB' hn (by omega) h3 h
theorem countP {nrem : Nat} {Q : Option Nat → SortSt → Prop} (hC : Cmp prog w A (fun _ _ => False) s kd a₀) (hB : SB kd a₀ st) (hn : nrem ≤ a₀.size) (h1 : 1 ≤ nrem) (h : ∀ m st', SB kd a₀ st' → 1 ≤ m → m ≤ nrem → Q (some m) st') :
    wpS (model prog w) A E s (countRun' 0 nrem) Q st := by
  rw [countRun0_eq]
  refine wpS_bind (ascP hC hB hn (Nat.le_refl _) h1 fun n h2 h3 => ?_)
  dsimp only
  split
  · exact wpS_pure (h n st hB h2 h3)
  · rename_i hne
    have hlt : n + 1 ≤ nrem := by
      have : n ≠ nrem := fun z => hne (by simp [z])
      omega
    split
    · refine wpS_bind (ltP hC hB (by omega) (by omega) fun b => ?_)
      cases b with
      | true => exact wpS_pure (h n st hB h2 h3)
      | false => exact wpS_bind (wpS_reverse (partP hC (hB.put (mirror_perm _ _ _ _)) hn hlt h))
    · exact partP hC hB hn hlt h
theorem binP {n ok : Nat} {Q : Bool → SortSt → Prop} (hC : Cmp prog w A (fun _ _ => False) s kd a₀) (hB : SB kd a₀ st) (hn : n ≤ a₀.size) (h : ∀ st', SB kd a₀ st' → Q true st') :
    wpS (model prog w) A E s (binarySort' 0 n ok) Q st := by
  rw [binarySort'_eq]
  refine wpS_bind (wpS_forRange (I := fun _ c st' => c.fst = none ∧ SB kd a₀ st') ?_ ?_ ⟨rfl, hB⟩)
  · rintro k c st' h1 h2 ⟨hc, hB'⟩
    dsimp only
    refine wpS_bind (wpS_forRange (I := fun _ (c : Option Bool × Nat × Nat) st'' => st'' = st' ∧ c.1 = none ∧ c.2.1 ≤ k ∧ c.2.2 ≤ k) (Q := fun c st'' => wpS (model prog w) A E s _ _ st'') ?_ ?_ ⟨rfl, rfl, Nat.zero_le _, Nat.le_refl _⟩)
    · rintro i ⟨c1, l, r⟩ st'' h3 h4 ⟨rfl, rfl, h5, h6⟩
      dsimp only at h5 h6 ⊢
      split
      · refine wpS_pure ?_
        show wpS _ _ _ _ (moveDown' (0 + k) (0 + l) >>= fun _ => pure (ForInStep.yield (none, ()))) _ _
        refine wpS_bind ?_
        rw [moveDown'_eq]
        exact wpS_modify (wpS_pure ⟨rfl, hB'.put (bubble_perm _ _ _)⟩)
      · rename_i hlr
        refine wpS_bind (ltP hC hB' (by omega) (by omega) fun b => ?_)
        cases b with
        | true => exact wpS_pure ⟨rfl, rfl, h5, by show (l + r) / 2 ≤ k; omega⟩
        | false => exact wpS_pure ⟨rfl, rfl, by show (l + r) / 2 + 1 ≤ k; omega, h6⟩
    · rintro ⟨c1, l, r⟩ st'' ⟨rfl, rfl, h5, h6⟩
      show wpS _ _ _ _ (moveDown' (0 + k) (0 + l) >>= fun _ => pure (ForInStep.yield (none, ()))) _ _
      refine wpS_bind ?_
      rw [moveDown'_eq]
      exact wpS_modify (wpS_pure ⟨rfl, hB'.put (bubble_perm _ _ _)⟩)
  · rintro ⟨c1, c2⟩ st' ⟨rfl, hB'⟩
    exact wpS_pure (h st' hB')
theorem runsP {Q : Unit → SortSt → Prop} (hC : Cmp prog w A (fun _ _ => False) s kd a₀) (hB : SB kd a₀ st) (h2 : 2 ≤ a₀.size) (h64 : a₀.size < 64) (h : ∀ st', (arrOf st').Perm a₀ → failedOf st' = none → Q () st') :
    wpS (model prog w) A E s sortRuns' Q st := by
  rw [sortRuns'_eq]
  refine wpS_bind (wpS_get ?_)
  dsimp only
  rw [hB.sz]
  obtain ⟨m, hm⟩ : ∃ m, a₀.size = m + 1 := ⟨a₀.size - 1, by omega⟩
  have hmin : minRun' a₀.size a₀.size 0 = a₀.size := by
    conv => lhs; arg 1; rw [hm]
    rw [minRun'_succ, if_pos h64, Nat.add_zero]
  rw [hmin]
  have lst : ∀ st', (arrOf st').Perm a₀ → failedOf st' = none → pendingOf st' = #[(0, a₀.size, 0)] → ∀ (f : Nat → Option Unit × Unit → StateT SortSt Sem (ForInStep (Option Unit × Unit))) (k : Option Unit × Unit → StateT SortSt Sem Unit), (∀ i, ∃ g : SortSt → StateT SortSt Sem (ForInStep (Option Unit × Unit)), f i (none, ()) = (get >>= fun p => if (pendingOf p).size ≤ 1 then pure (ForInStep.done (none, ())) else g p)) → (k (none, ()) = pure ()) →
      wpS (model prog w) A E s (forIn [:a₀.size] ((none, ()) : Option Unit × Unit) f >>= k) Q st' := fun st' p1 p2 p3 f k hf hk => by
    refine wpS_bind (wpS_forRange (I := fun _ c st'' => c = (none, ()) ∧ st'' = st') ?_ ?_ ⟨rfl, rfl⟩)
    · rintro i c st'' _ _ ⟨rfl, rfl⟩
      obtain ⟨g, hg⟩ := hf i
      rw [hg]
      refine wpS_bind (wpS_get ?_)
      rw [p3]
      rw [if_pos (by simp)]
      refine wpS_pure ?_
      show wpS _ _ _ _ (k (none, ())) _ _
      rw [hk]
      exact wpS_pure (h _ p1 p2)
    · rintro c st'' ⟨rfl, rfl⟩
      rw [hk]
      exact wpS_pure (h _ p1 p2)
  refine wpS_bind (wpS_forRange (I := fun i (c : Option Unit × Nat) st' => (i = 0 ∧ c = (none, 0) ∧ SB kd a₀ st') ∨ (1 ≤ i ∧ c = (none, a₀.size) ∧ (arrOf st').Perm a₀ ∧ failedOf st' = none ∧ pendingOf st' = #[(0, a₀.size, 0)])) ?_ ?_ (.inl ⟨rfl, rfl, hB⟩))
  · rintro i c st' _ hi (⟨rfl, rfl, hB'⟩ | ⟨h1, rfl, p1, p2, p3⟩)
    · have h0 : ¬ 0 ≥ a₀.size := by omega
      dsimp only
      rw [if_neg h0, Nat.sub_zero]
      have push : ∀ st'', SB kd a₀ st'' → wpS (model prog w) A E s (modify (fun q : SortSt => setPending q ((pendingOf q).push (0, a₀.size, 0))) >>= fun _ => pure (ForInStep.yield ((none, 0 + a₀.size) : Option Unit × Nat))) (fun r st3 => match r with
          | .done c' => False
          | .yield c' => c' = (none, a₀.size) ∧ (arrOf st3).Perm a₀ ∧ failedOf st3 = none ∧ pendingOf st3 = #[(0, a₀.size, 0)]) st'' := fun st'' hb => by
        refine wpS_bind (wpS_modify (wpS_pure ⟨by rw [Nat.zero_add], hb.pm, hb.fl, ?_⟩))
        show (pendingOf st'').push (0, a₀.size, 0) = _
        rw [hb.pe]; rfl
      refine wpS_bind (countP hC hB' (Nat.le_refl _) (by omega) fun m' st'' hb h3 h4 => ?_)
      dsimp only
      split
      · rw [Nat.min_self]
        refine wpS_bind (wpS_lift (wpAny_rule ⟨rfl, ?_⟩))
        refine wpS_bind (binP hC hb (Nat.le_refl _) fun st3 hb3 => ?_)
        rw [if_neg (by simp)]
        refine wpS_bind (wpS_get ?_)
        rw [hb3.pe]
        refine wpS_mono (push st3 hb3) fun r st4 hr => ?_
        cases r with
        | done c' => exact hr.elim
        | yield c' => exact .inr ⟨by omega, hr⟩
      · rename_i hge
        obtain rfl : m' = a₀.size := by omega
        refine wpS_bind (wpS_get ?_)
        rw [hb.pe]
        refine wpS_mono (push st'' hb) fun r st4 hr => ?_
        cases r with
        | done c' => exact hr.elim
        | yield c' => exact .inr ⟨by omega, hr⟩
    · dsimp only
      rw [if_pos (Nat.le_refl _)]
      refine wpS_pure ?_
      exact lst st' p1 p2 p3 _ _ (fun i => ⟨_, rfl⟩) rfl
  · rintro c st' (⟨h1, _⟩ | ⟨h1, rfl, p1, p2, p3⟩)
    · exfalso
      have : max 0 a₀.size = a₀.size := Nat.max_eq_right (Nat.zero_le _)
      omega
    · exact lst st' p1 p2 p3 _ _ (fun i => ⟨_, rfl⟩) rfl
end
end TS
set_option Elab.async false
set_option linter.all false
set_option maxRecDepth 100000
set_option maxHeartbeats 4000000
namespace TS
open PySem PyProof.Rows
section
variable {prog : Program} {w : World} {A : Around} {E : Value → Shared → Prop} {s : Shared}
theorem perm_snd {vs : List Value} {xs : Array Keyed} (hp : xs.Perm (pairsOf vs)) : (xs.map (·.2)).toList.Perm vs := by
  have h := (Array.perm_iff_toList_perm.mp hp).map (fun p : Keyed => p.2)
  rw [pairsOf_toList] at h
  rw [Array.toList_map]
  refine h.trans ?_
  have : ∀ l : List Value, (l.zip l).map (fun p : Keyed => p.2) = l := fun l => by
    induction l with
    | nil => rfl
    | cons x l ih => rw [List.zip_cons_cons, List.map_cons, ih]
  rw [this]
theorem sortP {l : Addr} {vs : List Value} {ep : Nat} {P : Fin → Shared → Prop} (hl : s.heap.get? l = some (seqObj "list" vs.toArray ep)) (h64 : vs.length < 64)
    (hk : 2 ≤ vs.length → ∀ g : Heap, (∀ b o, b ≠ l → s.heap.get? b = some o → g.get? b = some o) → ∃ kd, (∀ Q : SortKind → Shared → Prop, Q kd { s with heap := g } → wpAny (model prog w) A (keyKind' vs.toArray) Q E { s with heap := g }) ∧ Cmp prog w A (fun _ _ => False) { s with heap := g } kd (pairsOf vs))
    (h : ∀ out : Array Value, out.toList.Perm vs → P (.done (.ret .none)) { s with heap := sortedHeap s.heap l vs out }) :
    wpAny (model prog w) A (Builtin.«list.sort» ⟨[.ref l], []⟩) P E s := by
  have hlt : l < s.heap.objs.size := Heap.lt_size hl
  have n64 : vs.length ≤ sizeLine := by rw [sizeLine_eq]; omega
  rw [list_sort_plain]
  refine wpAny_bind (listItems_at hl rfl (wpAny_bind (listUpdate_at hl rfl ?_)))
  obtain ⟨e1, g1⟩ : ∃ e1, (s.heap.update l (Obj.mapSeq fun _ => #[])).get? l = some (seqObj "list" #[] e1) := ⟨_, get?_update_seq hl _⟩
  refine wpAny_bind (seqEpoch_at g1 rfl (wpAny_bind (wpAny_newTuple (wpAny_bind (wpAny_newList (wpAny_holding ?_))) (by simpa using n64))))
  show wpAny (model prog w) A _ P E { s with heap := ((s.heap.update l (Obj.mapSeq fun _ => #[])).push (seqObj "tuple" vs.toArray 0)).push (seqObj "list" #[] 0) }
  generalize hg : ((s.heap.update l (Obj.mapSeq fun _ => #[])).push (seqObj "tuple" vs.toArray 0)).push (seqObj "list" #[] 0) = g
  have g2 : g.get? l = some (seqObj "list" #[] e1) := by
    subst hg
    exact Heap.get?_push_of_some _ (Heap.get?_push_of_some _ g1)
  have old : ∀ b o, b ≠ l → s.heap.get? b = some o → g.get? b = some o := fun b o hb e => by
    subst hg
    refine Heap.get?_push_of_some _ (Heap.get?_push_of_some _ ?_)
    rw [Heap.get?_update_ne _ _ _ _ hb]; exact e
  have out : ∀ xs : Array Keyed, xs.Perm (pairsOf vs) → P (.done (.ret .none)) { s with heap := g.update l (Obj.mapSeq fun _ => xs.map (·.2)) } := fun xs hp => by
    have := h (xs.map (·.2)) (perm_snd hp)
    unfold sortedHeap at this
    rw [hg] at this
    exact this
  have osz : ∀ xs : Array Keyed, xs.Perm (pairsOf vs) → (xs.map (·.2)).size ≤ sizeLine := fun xs hp => by
    rw [Array.size_map, hp.size_eq, pairsOf_size]; exact n64
  dsimp only
  by_cases h2 : vs.toArray.size < 2
  · rw [if_pos h2, if_pos h2]
    refine wpAny_bind (wpAny_pure ?_)
    rw [StateT.run_pure]
    refine wpAny_bind (wpAny_pure ?_)
    refine wpAny_bind (seqEpoch_at g2 rfl (wpAny_bind (listUpdate_at g2 rfl ?_ (hsz2 := Nat.le_succ_of_le (osz (pairsOf vs) (Array.Perm.refl _))))))
    simp only [bne_self_eq_false, Bool.false_eq_true, if_false]
    exact wpAny_pure (out (pairsOf vs) (Array.Perm.refl _))
  · rw [if_neg h2, if_neg h2]
    have h2' : 2 ≤ vs.length := by rw [List.size_toArray] at h2; omega
    obtain ⟨kd, k1, k2⟩ := hk h2' g old
    refine wpAny_bind (k1 _ ?_)
    refine wpAny_bind (wpAny_mono (runsP (E := E) (st := SortSt.mk' kd (vs.toArray.zip vs.toArray) #[] 7 none) (Q := fun _ st' => (arrOf st').Perm (pairsOf vs) ∧ failedOf st' = none) k2 ⟨Array.Perm.refl _, rfl, rfl, rfl⟩ (by rw [pairsOf_size]; exact h2') (by rw [pairsOf_size]; exact h64) fun st' q1 q2 => ⟨q1, q2⟩) ?_ fun _ _ z => z)
    rintro ⟨⟨⟩, st'⟩ s' ⟨rfl, hp, hf⟩
    dsimp only
    refine wpAny_bind (seqEpoch_at g2 rfl (wpAny_bind (listUpdate_at g2 rfl ?_ (hsz2 := Nat.le_succ_of_le (osz _ hp)))))
    rw [hf]
    simp only [bne_self_eq_false, Bool.false_eq_true, if_false]
    exact wpAny_pure (out _ hp)
end
end TS
set_option Elab.async false
set_option linter.all false
set_option maxRecDepth 100000
set_option maxHeartbeats 4000000
namespace TS
open PySem PyProof.Rows
section
variable {prog : Program} {w : World} {A : Around} {E : Value → Shared → Prop} {s : Shared}
inductive Sc : Value → Value → Prop
  | int (i j : Int) (t u : Tok) : Sc (.int i t) (.int j u)
  | str (x y : Str) (t u : Tok) : Sc (.str x t) (.str y u)
theorem eq_sc {p q : Value} (h : Sc p q) {Q : Bool → Shared → Prop} (hq : ∀ b, Q b s) : wpAny (model prog w) A (eqBool p q) Q E s := by
  cases h with
  | int i j t u => exact wpAny_eqBool_int (hq _)
  | str x y t u => exact wpAny_eqBool_str (hq _)
theorem lt_sc {p q : Value} (h : Sc p q) (c : Bool) {Q : Bool → Shared → Prop} (hq : ∀ b, Q b s) : wpAny (model prog w) A (oneLt' c p q) Q E s := by
  cases c with
  | true =>
    cases h with
    | int i j t u => exact oneLt_int (hq _)
    | str x y t u => exact oneLt_str (hq _)
  | false =>
    rw [oneLt'_eq]
    simp only [Bool.false_eq_true, if_false]
    cases h with
    | int i j t u => exact wpAny_bind (wpAny_richCompare_same (op := .Lt) (T := "int") (typeIs_int s i t) (typeIs_int s j u) slot_int_lt (call_int_lt ⟨by simp, wpAny_truthy_bool (hq _)⟩))
    | str x y t u => exact wpAny_bind (wpAny_richCompare_same (op := .Lt) (T := "str") (typeIs_str s x t) (typeIs_str s y u) slot_str_lt (call_str_lt ⟨by simp, wpAny_truthy_bool (hq _)⟩))
theorem keyLt_tuples (b : Bool) (x y : Value) : keyLt' (tuples' b) x y = (do
    let xs ← Builtin.List.listItems x
    let ys ← Builtin.List.listItems y
    for ((p, q), i) in (xs.toList.zip ys.toList).zipIdx do
      if !(← eqBool p q) then return ← oneLt' (b && i == 0) p q
    return decide (xs.size < ys.size)) := rfl
theorem cmp_list (c : Bool) : ∀ (l : List ((Value × Value) × Nat)), (∀ e ∈ l, Sc e.1.1 e.1.2) → ∀ Q : Option Bool × Unit → Shared → Prop, (∀ r, Q r s) →
    wpAny (model prog w) A (forIn l ((none, ()) : Option Bool × Unit) fun (x : (Value × Value) × Nat) (_ : Option Bool × Unit) => (match x with
      | ((p, q), i) => do
        let t ← eqBool p q
        if (!t) = true then do
          let t ← oneLt' (c && i == 0) p q
          pure (ForInStep.done (some t, ()))
        else pure (ForInStep.yield (none, ())) : Sem (ForInStep (Option Bool × Unit)))) Q E s
  | [], _, Q, hq => by
    rw [List.forIn_nil]
    exact wpAny_pure (hq _)
  | e :: l, h, Q, hq => by
    obtain ⟨⟨p, q⟩, i⟩ := e
    have ih := cmp_list c l (fun e he => h e (List.mem_cons_of_mem _ he)) Q hq
    have hs : Sc p q := h ((p, q), i) (by simp)
    rw [List.forIn_cons]
    refine wpAny_bind ?_
    show wpAny _ _ (eqBool p q >>= _) _ _ _
    refine wpAny_bind (eq_sc hs fun b => ?_)
    cases b with
    | true => exact wpAny_pure ih
    | false =>
      refine wpAny_bind (lt_sc hs _ fun b => ?_)
      exact wpAny_pure (wpAny_pure (hq _))
def TupAt (h : Heap) (v : Value) (its : Array Value) : Prop := ∃ a o n, v = .ref a ∧ h.get? a = some o ∧ o.cls = .type "tuple" ∧ o.data = .seq its n
theorem cmp_tup {x y : Value} {xs ys : Array Value} (hx : TupAt s.heap x xs) (hy : TupAt s.heap y ys) (hs : ∀ e ∈ xs.toList.zip ys.toList, Sc e.1 e.2) (c : Bool) {Q : Bool → Shared → Prop} (hq : ∀ b, Q b s) :
    wpAny (model prog w) A (keyLt' (tuples' c) x y) Q E s := by
  obtain ⟨a, o, n, rfl, h1, h2, h3⟩ := hx
  obtain ⟨a', o', n', rfl, h1', h2', h3'⟩ := hy
  rw [keyLt_tuples]
  refine wpAny_bind (listItems_at h1 h3 (wpAny_bind (listItems_at h1' h3' ?_)))
  refine wpAny_bind (cmp_list c _ (fun e he => ?_) _ fun r => ?_)
  rotate_left
  · obtain ⟨r1, r2⟩ := r
    cases r1 with
    | some b => exact wpAny_pure (hq b)
    | none => exact wpAny_pure (hq _)
  obtain ⟨⟨p, q⟩, i⟩ := e
  have := List.mem_zipIdx he
  obtain ⟨_, _, e2⟩ := this
  refine hs (p, q) ?_
  simp only [Nat.sub_zero] at e2
  rw [e2]
  exact List.getElem_mem _
theorem mapM_wp {α β : Type} {f : α → Sem β} {g : α → β} : ∀ (l : List α) (Q : List β → Shared → Prop), (∀ v ∈ l, ∀ R : β → Shared → Prop, R (g v) s → wpAny (model prog w) A (f v) R E s) → Q (l.map g) s → wpAny (model prog w) A (l.mapM f) Q E s
  | [], Q, _, hq => by rw [List.mapM_nil]; exact wpAny_pure hq
  | v :: l, Q, h, hq => by
    rw [List.mapM_cons]
    refine wpAny_bind (h v (by simp) _ ?_)
    refine wpAny_bind (mapM_wp l _ (fun v hv => h v (List.mem_cons_of_mem _ hv)) ?_)
    exact wpAny_pure hq
theorem first_eq (v : Value) : firstOfTuple' v = (do
    if (← typeOf v) != .type "tuple" then return none
    return (← Builtin.List.listItems v)[0]?) := rfl
theorem kind_tup {vs : List Value} (hne : vs ≠ []) (ht : ∀ v ∈ vs, ∃ its i t, TupAt s.heap v its ∧ its[0]? = some (.int i t)) {Q : SortKind → Shared → Prop} (hq : Q (tuples' true) s) :
    wpAny (model prog w) A (keyKind' vs.toArray) Q E s := by
  have pick : ∃ g : Value → Option Value, ∀ v ∈ vs, ∃ i t, g v = some (.int i t) ∧ ∀ R : Option Value → Shared → Prop, R (g v) s → wpAny (model prog w) A (firstOfTuple' v) R E s := by
    refine ⟨fun v => open Classical in if h : ∃ x : Value, (∃ i t, x = .int i t) ∧ ∀ R : Option Value → Shared → Prop, R (some x) s → wpAny (model prog w) A (firstOfTuple' v) R E s then some h.choose else none, fun v hv => ?_⟩
    obtain ⟨its, i, t, ⟨a, o, n, rfl, h1, h2, h3⟩, h4⟩ := ht v hv
    have hex : ∃ x : Value, (∃ i t, x = .int i t) ∧ ∀ R : Option Value → Shared → Prop, R (some x) s → wpAny (model prog w) A (firstOfTuple' (.ref a)) R E s := by
      refine ⟨.int i t, ⟨i, t, rfl⟩, fun R hR => ?_⟩
      rw [first_eq]
      refine wpAny_bind (wpAny_typeOf (T := "tuple") ⟨o, h1, h2⟩ ?_)
      simp only [bne_self_eq_false, Bool.false_eq_true, if_false]
      refine wpAny_bind (listItems_at h1 h3 (wpAny_pure ?_))
      rw [h4]; exact hR
    dsimp only
    rw [dif_pos hex]
    obtain ⟨⟨i', t', e⟩, hR⟩ := hex.choose_spec
    exact ⟨i', t', by rw [e], hR⟩
  obtain ⟨g, hg⟩ := pick
  rw [keyKind'_eq, List.mapM_toArray]
  refine wpAny_bind ?_
  rw [map_eq_pure_bind]
  refine wpAny_bind (mapM_wp (g := g) vs _ (fun v hv R hR => (hg v hv).choose_spec.choose_spec.2 R hR) (wpAny_pure ?_))
  have hall : ((vs.map g).toArray.all fun x => x.isSome) = true := by
    rw [List.all_toArray, List.all_map, List.all_eq_true]
    intro v hv
    obtain ⟨i, t, e, _⟩ := hg v hv
    show (g v).isSome = true
    rw [e]; rfl
  rw [if_pos hall]
  refine wpAny_bind (wpAny_rule ?_)
  have hfm : (Array.filterMap id (vs.map g).toArray) = (vs.filterMap g).toArray := by
    simp [List.filterMap_map]
  rw [hfm, oneTypeOnly'_eq, List.mapM_toArray]
  have hi : ∀ x ∈ vs.filterMap g, ∃ i t, x = Value.int i t := fun x hx => by
    obtain ⟨v, hv, e⟩ := List.mem_filterMap.mp hx
    obtain ⟨i, t, e', _⟩ := hg v hv
    rw [e] at e'
    exact ⟨i, t, Option.some.inj e'⟩
  have hn : vs.filterMap g ≠ [] := by
    obtain ⟨v, rest, rfl⟩ : ∃ v rest, vs = v :: rest := by
      cases vs with
      | nil => exact absurd rfl hne
      | cons v rest => exact ⟨v, rest, rfl⟩
    obtain ⟨i, t, e, _⟩ := hg v (by simp)
    rw [List.filterMap_cons_some e]
    simp
  generalize vs.filterMap g = fs at hi hn
  refine wpAny_bind (wpAny_bind ?_)
  rw [map_eq_pure_bind]
  refine wpAny_bind (mapM_wp (g := fun _ => Value.type "int") fs _ (fun x hx R hR => ?_) (wpAny_pure ?_))
  · obtain ⟨i, t, rfl⟩ := hi x hx
    exact wpAny_typeOf (typeIs_int s i t) hR
  · cases fs with
    | nil => exact absurd rfl hn
    | cons x fs =>
      have hal : (((x :: fs).map fun _ => Value.type "int").toArray.all fun y => y == Value.type "int") = true := by
        rw [List.all_toArray, List.all_map, List.all_eq_true]
        intro y _
        rfl
      show wpAny _ _ (pure (if (((x :: fs).map fun _ => Value.type "int").toArray.all fun y => y == Value.type "int") = true then some (Value.type "int") else none)) _ _ _
      rw [if_pos hal]
      exact wpAny_pure (wpAny_pure hq)
end
end TS
set_option Elab.async false
set_option linter.all false
set_option maxRecDepth 100000
set_option maxHeartbeats 4000000
namespace TS
open PySem PySem.Spec PyProof.Rows L2 VT
section
variable {prog : Program} {w : World} {A : Around} {E : Value → Shared → Prop} {s : Shared}
def Tri (h : Heap) (v : Value) : Prop := ∃ i x k t1 t2 t3, TupAt h v #[.int i t1, .str x t2, .int k t3]
theorem sorted_tri {l : Addr} {vs : List Value} {Q : Value → Shared → Prop} (hl : s.heap.IsList l vs.toArray) (h64 : vs.length < 64) (ht : ∀ v ∈ vs, Tri s.heap v)
    (h : ∀ out : Array Value, out.toList.Perm vs → Q (.ref (s.heap.objs.size + 1)) { s with heap := sortedAll s.heap vs out }) :
    wpAny (model prog w) A (call (.builtin "sorted") [.ref l]) Q E s := by
  have n64 : vs.length ≤ sizeLine := by rw [sizeLine_eq]; omega
  refine Calls.call_function_entry kind_sorted plain_sorted entry_sorted (args_sorted1 _) ?_
  unfold Builtin.«sorted»
  refine wpAny_bind (m := checkCount "sorted" 1 1 _) (wpAny_pure ?_)
  refine wpAny_bind (collect_list hl ?_ n64)
  have hz : ((s.heap.push (seqObj "list" #[] 0)).update s.heap.objs.size (Obj.mapSeq (· ++ vs.toArray))).objs.size = s.heap.objs.size + 1 := by
    rw [Heap.size_update, size_push']
  have old : ∀ b o, s.heap.get? b = some o → (((s.heap.push (seqObj "list" #[] 0)).update s.heap.objs.size (Obj.mapSeq (· ++ vs.toArray))).push (seqObj "list" vs.toArray 0)).get? b = some o := fun b o e => by
    refine Heap.get?_push_of_some _ ?_
    rw [Heap.get?_update_ne _ _ _ _ (Nat.ne_of_lt (Heap.lt_size e))]
    exact Heap.get?_push_of_some _ e
  refine wpAny_bind (wpAny_newList ?_ n64)
  have ho : (((s.heap.push (seqObj "list" #[] 0)).update s.heap.objs.size (Obj.mapSeq (· ++ vs.toArray))).push (seqObj "list" vs.toArray 0)).get? (s.heap.objs.size + 1) = some (seqObj "list" vs.toArray 0) := by
    rw [← hz]; exact Heap.get?_push_size _ rfl
  show wpAny _ _ _ _ _ { s with heap := ((s.heap.push (seqObj "list" #[] 0)).update s.heap.objs.size (Obj.mapSeq (· ++ vs.toArray))).push (seqObj "list" vs.toArray 0) }
  rw [hz]
  have tri2 : ∀ g : Heap, (∀ b o, b ≠ s.heap.objs.size + 1 → (((s.heap.push (seqObj "list" #[] 0)).update s.heap.objs.size (Obj.mapSeq (· ++ vs.toArray))).push (seqObj "list" vs.toArray 0)).get? b = some o → g.get? b = some o) → ∀ v ∈ vs, Tri g v := fun g hg v hv => by
    obtain ⟨i, x, k, t1, t2, t3, a, o, n, rfl, e, c, d⟩ := ht v hv
    exact ⟨i, x, k, t1, t2, t3, a, o, n, rfl, hg a o (Nat.ne_of_lt (Nat.lt_succ_of_lt (Heap.lt_size e))) (old a o e), c, d⟩
  refine wpAny_bind (wpAny_holding (wpAny_call_entry slot_list_sort ⟨_, ho, rfl⟩ entry_list_sort (sortP ho h64 (fun h2 g hg => ⟨tuples' true, fun R hR => kind_tup (by rintro rfl; simp at h2) (fun v hv => ?_) hR, fun p hp q hq R hR => ?_⟩) fun out hp => ⟨_, rfl, ?_⟩) (args_list_sort _)))
  · obtain ⟨i, x, k, t1, t2, t3, ta⟩ := tri2 g hg v hv
    exact ⟨_, i, t1, ta, rfl⟩
  · rw [pairsOf_toList] at hp hq
    obtain ⟨_, mp⟩ := mem_zip_self hp
    obtain ⟨_, mq⟩ := mem_zip_self hq
    obtain ⟨i, x, k, t1, t2, t3, ta⟩ := tri2 g hg p.1 mp
    obtain ⟨i', x', k', u1, u2, u3, tb⟩ := tri2 g hg q.1 mq
    refine cmp_tup ta tb (fun e he => ?_) true hR
    simp only [List.zip_cons_cons, List.zip_nil_right, List.mem_cons, List.not_mem_nil, or_false] at he
    rcases he with rfl | rfl | rfl
    · exact .int _ _ _ _
    · exact .str _ _ _ _
    · exact .int _ _ _ _
  · exact wpAny_pure ⟨_, rfl, h out hp⟩
theorem vals_perm : ∀ {us us' : List Value}, us'.Perm us → ∀ {xs : List V}, Vals xs us → ∃ zs : List V, zs.Perm xs ∧ Vals zs us' := by
  intro us us' p
  induction p with
  | nil => intro xs r; cases r; exact ⟨[], .nil, .nil⟩
  | cons u _ ih =>
    intro xs r
    cases r with
    | cons r t =>
      obtain ⟨zs, p, q⟩ := ih t
      exact ⟨_, p.cons _, .cons r q⟩
  | swap u v l =>
    intro xs r
    cases r with
    | cons r1 t => cases t with
      | cons r2 t => exact ⟨_, .swap _ _ _, .cons r2 (.cons r1 t)⟩
  | trans _ _ ih1 ih2 =>
    intro xs r
    obtain ⟨zs, p, q⟩ := ih2 r
    obtain ⟨zs', p', q'⟩ := ih1 q
    exact ⟨zs', p'.trans p, q'⟩
end
theorem call_sorted_tri {X : Cx} : CallR X (.builtin "sorted") (fun xs H Q => ∃ (p : Addr) (ws : List V), xs = [.ref p] ∧ SqL X.K H p ws ∧ ws.length < 64 ∧ (∀ w ∈ ws, ∃ b i x k, w = .ref b ∧ SqT X.K H b [.int i, .str x, .int k]) ∧ ∀ zs : List V, zs.Perm ws → ∀ a, H a = none → Q (.ref a) (upd H a (.lst zs))) := by
  intro pins s σ H xs us Q I r h
  obtain ⟨p, ws, rfl, hq, hl, ht, q⟩ := h
  obtain ⟨u, rfl, ru⟩ := vals1 r
  cases ru
  obtain ⟨its, rv, pl, hz⟩ := I.list hq
  have e := rv.length
  refine sorted_tri pl.isList (by omega) (fun v hv => ?_) fun out hp => ?_
  · obtain ⟨i, hi, rfl⟩ := List.mem_iff_getElem.mp hv
    have hw : ws[i]? = some (ws[i]'(by omega)) := List.getElem?_eq_getElem _
    obtain ⟨u, hu, ru⟩ := rv.get hw
    rw [List.getElem?_eq_getElem hi] at hu
    cases hu
    obtain ⟨b, j, x, k, eb, hb⟩ := ht _ (List.getElem_mem (by omega : i < ws.length))
    rw [eb] at ru
    have eu : its[i] = .ref b := ru
    rw [eu]
    obtain ⟨ps, pv, ⟨o, ho, hc, n, hd⟩, _⟩ := I.tuple hb
    cases pv with
    | cons r1 pv => cases pv with
      | cons r2 pv => cases pv with
        | cons r3 pv =>
          cases pv
          obtain ⟨t1, rfl⟩ := r1
          obtain ⟨t2, rfl⟩ := r2
          obtain ⟨t3, rfl⟩ := r3
          exact ⟨j, x, k, t1, t2, t3, b, o, n, rfl, ho, hc, hd⟩
  · obtain ⟨zs, p1, p2⟩ := vals_perm hp rv
    refine sorted_laid I p2 ?_ (q zs p1)
    rw [p1.length_eq]; exact hz
def triT (t : T) : Prop := ∃ i x k, t = .tup [.int i, .str x, .int k]
def pSort3 (ts : List T) (q : Rt → Prop) : Prop := ∃ rows : List T, ts = [.lst rows] ∧ rows.length < 64 ∧ (∀ t ∈ rows, triT t) ∧ ∀ zs : List T, zs.Perm rows → q (.fr (.lst zs))
section
variable {K : PySem.W.Frag} {H : Hp} {A : List Addr}
theorem uncons {t : T} {ts : List T} {v : V} {vs : List V} (h : AtL K H A (t :: ts) (v :: vs)) : At K H A t v ∧ AtL K H A ts vs := by
  simp only [AtL] at h
  obtain ⟨v', r, e, h1, h2⟩ := h
  cases e
  exact ⟨h1, h2⟩
theorem atL_perm : ∀ {ws zs : List V}, zs.Perm ws → ∀ {ts : List T}, AtL K H A ts ws → ∃ us : List T, us.Perm ts ∧ AtL K H A us zs := by
  intro ws zs p
  induction p with
  | nil => intro ts h; exact ⟨ts, .rfl, h⟩
  | cons v _ ih =>
    intro ts h
    cases ts with
    | nil => have := h.length; simp at this
    | cons t ts =>
      obtain ⟨h1, h2⟩ := uncons h
      obtain ⟨us, p, q⟩ := ih h2
      exact ⟨t :: us, p.cons t, AtL.cons h1 q⟩
  | swap v w l =>
    intro ts h
    cases ts with
    | nil => have := h.length; simp at this
    | cons t ts => cases ts with
      | nil => have := h.length; simp at this
      | cons t' ts =>
        obtain ⟨h1, h2⟩ := uncons h
        obtain ⟨h2, h3⟩ := uncons h2
        exact ⟨t' :: t :: ts, .swap _ _ _, AtL.cons h2 (AtL.cons h1 h3)⟩
  | trans _ _ ih1 ih2 =>
    intro ts h
    obtain ⟨us, p, q⟩ := ih2 h
    obtain ⟨us', p', q'⟩ := ih1 q
    exact ⟨us', p'.trans p, q'⟩
theorem atL_each : ∀ {ts : List T} {ws : List V}, AtL K H A ts ws → ∀ w ∈ ws, ∃ t ∈ ts, At K H A t w
  | [], ws, h, w, hw => by have := h.length; cases ws with
    | nil => cases hw
    | cons a b => simp at this
  | t :: ts, ws, h, w, hw => by
    cases ws with
    | nil => cases hw
    | cons v ws =>
      obtain ⟨h1, h2⟩ := uncons h
      rcases List.mem_cons.mp hw with rfl | z
      · exact ⟨t, by simp, h1⟩
      · obtain ⟨u, hu, a⟩ := atL_each h2 w z
        exact ⟨u, List.mem_cons_of_mem _ hu, a⟩
theorem callT_sort3 : CallT K (fun xs H Q => ∃ (p : Addr) (ws : List V), xs = [.ref p] ∧ SqL K H p ws ∧ ws.length < 64 ∧ (∀ w ∈ ws, ∃ b i x k, w = .ref b ∧ SqT K H b [.int i, .str x, .int k]) ∧ ∀ zs : List V, zs.Perm ws → ∀ a, H a = none → Q (.ref a) (upd H a (.lst zs))) pSort3 := by
  intro Z tm O ρ σ H ts vs q Q I h hp k
  obtain ⟨rows, rfl, hl, hr, hq⟩ := hp
  obtain ⟨v, rfl, a⟩ := paired1 h
  obtain ⟨p, ws, rfl, hs, hv⟩ := a.lst
  have e := hv.length
  refine ⟨p, ws, rfl, hs, by omega, fun w hw => ?_, fun zs h1 b hb => ?_⟩
  · obtain ⟨t, ht, at'⟩ := atL_each hv w hw
    obtain ⟨i, x, c, rfl⟩ := hr t ht
    obtain ⟨b, us, rfl, h2, h3⟩ := AtR.tup (.inl at')
    simp only [AtL, At] at h3
    obtain ⟨_, _, rfl, rfl, _, _, rfl, rfl, _, _, rfl, rfl, rfl⟩ := h3
    exact ⟨b, i, x, c, rfl, h2⟩
  · obtain ⟨us, p1, p2⟩ := atL_perm h1 hv
    exact k _ (hq us p1) _ _ (same_upd hb) (I.newL hb p2)
end
end TS
set_option Elab.async false
set_option linter.all false
set_option maxRecDepth 100000
namespace BS
open PySem PySem.Builtin PyProof.Rows
def ib (x : Int) (k : Nat) : Bool := decide (x / 2 ^ k % 2 = 1)
theorem two_pos (k : Nat) : (0 : Int) < 2 ^ k := Int.pow_pos (by decide)
theorem pow_cast (k : Nat) : ((2 ^ k : Nat) : Int) = 2 ^ k := by rw [Int.natCast_pow]; rfl
theorem ib_nat (n k : Nat) : ib (n : Int) k = n.testBit k := by
  unfold ib
  rw [Nat.testBit_eq_decide_div_mod_eq, ← pow_cast]
  have : ((n : Int) / ((2 ^ k : Nat) : Int) % 2 = 1) ↔ (n / 2 ^ k % 2 = 1) := by
    rw [← Int.natCast_ediv]; omega
  exact decide_eq_decide.mpr this
theorem ib_not (x : Int) (k : Nat) : ib (bitNot x) k = !ib x k := by
  unfold ib bitNot
  have h : (-x - 1) / 2 ^ k = -(x / 2 ^ k) - 1 := by
    have hp := two_pos k
    have e1 := Int.mul_ediv_add_emod x (2 ^ k)
    have e2 := Int.emod_nonneg x (Int.ne_of_gt hp)
    have e3 := Int.emod_lt_of_pos x hp
    refine (Int.ediv_emod_unique hp (r := 2 ^ k - 1 - x % 2 ^ k)).mpr ⟨?_, ?_, ?_⟩ |>.1
    · have : 2 ^ k * (-(x / 2 ^ k) - 1) = -(2 ^ k * (x / 2 ^ k)) - 2 ^ k := by rw [Int.mul_sub, Int.mul_neg, Int.mul_one]
      rw [this]; omega
    · omega
    · omega
  rw [h]
  by_cases q : x / 2 ^ k % 2 = 1
  · rw [decide_eq_true q, decide_eq_false (by omega)]; rfl
  · rw [decide_eq_false q, decide_eq_true (by omega)]; rfl
theorem ib_ext {x y : Int} (h : ∀ k, ib x k = ib y k) : x = y := by
  have pos : ∀ (m n : Nat), (∀ k, ib (m : Int) k = ib (n : Int) k) → m = n := fun m n q => Nat.eq_of_testBit_eq fun k => by rw [← ib_nat, ← ib_nat]; exact q k
  have mix : ∀ (m : Nat) (y : Int), ¬ 0 ≤ y → ¬ ∀ k, ib (m : Int) k = ib y k := by
    intro m y hy q
    have hn : 0 ≤ bitNot y := bitNot_nonneg.mpr hy
    obtain ⟨n, hn⟩ := Int.eq_ofNat_of_zero_le hn
    have h1 := q (m + n)
    rw [← bitNot_bitNot y, ib_not, hn, ib_nat, ib_nat] at h1
    have a1 : m.testBit (m + n) = false := Nat.testBit_lt_two_pow (Nat.lt_of_le_of_lt (Nat.le_add_right m n) Nat.lt_two_pow_self)
    have a2 : n.testBit (m + n) = false := Nat.testBit_lt_two_pow (Nat.lt_of_le_of_lt (Nat.le_add_left n m) Nat.lt_two_pow_self)
    rw [a1, a2] at h1
    cases h1
  by_cases hx : 0 ≤ x
  · obtain ⟨m, rfl⟩ := Int.eq_ofNat_of_zero_le hx
    by_cases hy : 0 ≤ y
    · obtain ⟨n, rfl⟩ := Int.eq_ofNat_of_zero_le hy
      exact congrArg _ (pos m n h)
    · exact (mix m y hy h).elim
  · by_cases hy : 0 ≤ y
    · obtain ⟨n, rfl⟩ := Int.eq_ofNat_of_zero_le hy
      exact (mix n x hx fun k => (h k).symm).elim
    · have a := bitNot_nonneg.mpr hx
      have b := bitNot_nonneg.mpr hy
      obtain ⟨m, hm⟩ := Int.eq_ofNat_of_zero_le a
      obtain ⟨n, hn⟩ := Int.eq_ofNat_of_zero_le b
      have : m = n := pos m n fun k => by rw [← hm, ← hn, ib_not, ib_not, h k]
      rw [← bitNot_bitNot x, ← bitNot_bitNot y, hm, hn, this]
theorem nat_sub_and (x m : Nat) : x - (x &&& m) = x ^^^ (x &&& m) := by
  have h := nat_or_add_and (x ^^^ (x &&& m)) (x &&& m)
  have e1 : (x ^^^ (x &&& m)) ||| (x &&& m) = x := Nat.eq_of_testBit_eq fun k => by
    simp only [Nat.testBit_or, Nat.testBit_xor, Nat.testBit_and]
    cases x.testBit k <;> cases m.testBit k <;> rfl
  have e2 : (x ^^^ (x &&& m)) &&& (x &&& m) = 0 := Nat.eq_of_testBit_eq fun k => by
    simp only [Nat.testBit_xor, Nat.testBit_and, Nat.zero_testBit]
    cases x.testBit k <;> cases m.testBit k <;> rfl
  rw [e1, e2] at h
  omega
theorem ib_and (x y : Int) (k : Nat) : ib (bitAnd x y) k = (ib x k && ib y k) := by
  have pn : ∀ (m : Nat) (y : Int), ¬ 0 ≤ y → ib ((m : Int) - ((m &&& (bitNot y).toNat : Nat) : Int)) k = (ib (m : Int) k && ib y k) := by
    intro m y hy
    obtain ⟨n, hn⟩ := Int.eq_ofNat_of_zero_le (bitNot_nonneg.mpr hy)
    have e : ib y k = !n.testBit k := by rw [← bitNot_bitNot y, ib_not, hn, ib_nat]
    rw [hn, Int.toNat_natCast, ← Int.ofNat_sub Nat.and_le_left, nat_sub_and, ib_nat, ib_nat, e]
    simp only [Nat.testBit_xor, Nat.testBit_and]
    cases m.testBit k <;> cases n.testBit k <;> rfl
  by_cases hx : 0 ≤ x
  · obtain ⟨m, rfl⟩ := Int.eq_ofNat_of_zero_le hx
    by_cases hy : 0 ≤ y
    · obtain ⟨n, rfl⟩ := Int.eq_ofNat_of_zero_le hy
      rw [bitAnd_pp hx hy, Int.toNat_natCast, Int.toNat_natCast, ib_nat, ib_nat, ib_nat, Nat.testBit_and]
    · rw [bitAnd_pn hx hy, Int.toNat_natCast]
      exact pn m y hy
  · by_cases hy : 0 ≤ y
    · obtain ⟨n, rfl⟩ := Int.eq_ofNat_of_zero_le hy
      rw [bitAnd_np hx hy, Int.toNat_natCast, pn n x hx, Bool.and_comm]
    · obtain ⟨m, hm⟩ := Int.eq_ofNat_of_zero_le (bitNot_nonneg.mpr hx)
      obtain ⟨n, hn⟩ := Int.eq_ofNat_of_zero_le (bitNot_nonneg.mpr hy)
      rw [bitAnd_nn hx hy, hm, hn, Int.toNat_natCast, Int.toNat_natCast, ib_not, ib_nat, Nat.testBit_or, ← ib_nat, ← ib_nat, ← hm, ← hn, ib_not, ib_not]
      cases ib x k <;> cases ib y k <;> rfl
theorem ib_or (x y : Int) (k : Nat) : ib (bitOr x y) k = (ib x k || ib y k) := by
  unfold bitOr
  rw [ib_not, ib_and, ib_not, ib_not]
  cases ib x k <;> cases ib y k <;> rfl
theorem ib_zero (k : Nat) : ib 0 k = false := by
  have := ib_nat 0 k
  rw [Nat.zero_testBit] at this
  exact this
theorem ib_shr (x : Int) (j k : Nat) : ib (x / 2 ^ j) k = ib x (j + k) := by
  unfold ib
  rw [Int.ediv_ediv_of_nonneg (Int.le_of_lt (two_pos j)), ← Int.pow_add]
theorem ib_mod (x : Int) (j k : Nat) : ib (x % 2 ^ j) k = (decide (k < j) && ib x k) := by
  have pos : ∀ n : Nat, ib ((n : Int) % 2 ^ j) k = (decide (k < j) && n.testBit k) := fun n => by
    rw [← pow_cast, ← Int.natCast_emod, ib_nat, Nat.testBit_mod_two_pow]
  by_cases hx : 0 ≤ x
  · obtain ⟨m, rfl⟩ := Int.eq_ofNat_of_zero_le hx
    rw [pos, ib_nat]
  · obtain ⟨m, hm⟩ := Int.eq_ofNat_of_zero_le (bitNot_nonneg.mpr hx)
    have e : x = -(m : Int) - 1 := by unfold bitNot at hm; omega
    have hp := two_pos j
    have e2 : x % 2 ^ j = 2 ^ j - 1 - (m : Int) % 2 ^ j := by
      have e1 := Int.mul_ediv_add_emod (m : Int) (2 ^ j)
      have e2 := Int.emod_nonneg (m : Int) (Int.ne_of_gt hp)
      have e3 := Int.emod_lt_of_pos (m : Int) hp
      refine (Int.ediv_emod_unique hp (q := -((m : Int) / 2 ^ j) - 1)).mpr ⟨?_, ?_, ?_⟩ |>.2
      · have : 2 ^ j * (-((m : Int) / 2 ^ j) - 1) = -(2 ^ j * ((m : Int) / 2 ^ j)) - 2 ^ j := by rw [Int.mul_sub, Int.mul_neg, Int.mul_one]
        rw [this]; omega
      · omega
      · omega
    have e3 : x % 2 ^ j = ((2 ^ j - (m % 2 ^ j + 1) : Nat) : Int) := by
      have hlt : m % 2 ^ j < 2 ^ j := Nat.mod_lt _ (Nat.two_pow_pos j)
      have a1 : (m : Int) % 2 ^ j = ((m % 2 ^ j : Nat) : Int) := by rw [Int.natCast_emod, pow_cast]
      have a2 := pow_cast j
      rw [e2, a1, ← a2]
      generalize 2 ^ j = P at hlt ⊢
      omega
    have hb : ib x k = !m.testBit k := by rw [← bitNot_bitNot x, ib_not, hm, ib_nat]
    rw [e3, ib_nat, Nat.testBit_two_pow_sub_succ (Nat.mod_lt _ (Nat.two_pow_pos j)), Nat.testBit_mod_two_pow, hb]
    by_cases q : k < j
    · rw [decide_eq_true q, Bool.true_and, Bool.true_and, Bool.true_and]
    · rw [decide_eq_false q, Bool.false_and, Bool.false_and]
theorem ib_one (k : Nat) : ib 1 k = decide (k = 0) := by
  cases k with
  | zero => decide
  | succ k =>
    have h : (1 : Int) / 2 ^ (k + 1) = 0 := Int.ediv_eq_zero_of_lt (by decide) (by rw [Int.pow_succ]; have := two_pos k; omega)
    unfold ib
    rw [h]
    rfl
theorem or_nn {x y : Int} (h : 0 ≤ x) (h' : 0 ≤ y) : 0 ≤ bitOr x y := by
  unfold bitOr
  rw [bitAnd_nn (fun q => (bitNot_nonneg.mp q) h) (fun q => (bitNot_nonneg.mp q) h'), bitNot_bitNot]
  exact Int.natCast_nonneg _
theorem and_one (x : Int) : bitAnd x 1 = if ib x 0 = true then 1 else 0 := ib_ext fun k => by
  rw [ib_and, ib_one]
  by_cases e : k = 0
  · subst e
    cases q : ib x 0 with
    | true => rw [if_pos rfl, ib_one]; rfl
    | false => rw [if_neg (by decide), ib_zero]; rfl
  · rw [decide_eq_false e, Bool.and_false]
    split
    · rw [ib_one, decide_eq_false e]
    · rw [ib_zero]
theorem at_and_one (x : Int) (k : Nat) : bitAnd (x / 2 ^ k) 1 = if ib x k = true then 1 else 0 := by rw [and_one, ib_shr, Nat.add_zero]
def sub (y x : Int) : Prop := ∀ k, ib y k = true → ib x k = true
theorem sub_refl (x : Int) : sub x x := fun _ h => h
theorem sub_trans {x y z : Int} (h : sub x y) (h' : sub y z) : sub x z := fun k q => h' k (h k q)
theorem sub_antisymm {x y : Int} (h : sub x y) (h' : sub y x) : x = y := ib_ext fun k => by
  cases q : ib x k with
  | true => rw [h k q]
  | false =>
    cases r : ib y k with
    | false => rfl
    | true => rw [h' k r] at q; cases q
theorem sub_or_left (x y : Int) : sub x (bitOr x y) := fun k h => by rw [ib_or, h]; rfl
theorem sub_or_right (x y : Int) : sub y (bitOr x y) := fun k h => by rw [ib_or, h, Bool.or_true]
theorem sub_zero (x : Int) : sub 0 x := fun k h => by rw [ib_zero] at h; cases h
def below (m : Nat) (x : Int) : Prop := 0 ≤ x ∧ x < 2 ^ m
theorem below.bit {m : Nat} {x : Int} (h : below m x) {k : Nat} (hk : ib x k = true) : k < m := by
  have e : x % 2 ^ m = x := Int.emod_eq_of_lt h.1 h.2
  rw [← e, ib_mod, Bool.and_eq_true] at hk
  exact of_decide_eq_true hk.1
theorem below_of {m : Nat} {x : Int} (h0 : 0 ≤ x) (h : ∀ k, ib x k = true → k < m) : below m x := by
  refine ⟨h0, ?_⟩
  have e : x = x % 2 ^ m := ib_ext fun k => by
    rw [ib_mod]
    cases q : ib x k with
    | false => rw [Bool.and_false]
    | true => rw [decide_eq_true (h k q)]; rfl
  rw [e]
  exact Int.emod_lt_of_pos _ (two_pos m)
theorem below_or {m : Nat} {x y : Int} (h : below m x) (h' : below m y) : below m (bitOr x y) := below_of (or_nn h.1 h'.1) fun k hk => by
  rw [ib_or, Bool.or_eq_true] at hk
  exact hk.elim h.bit h'.bit
theorem below_zero (m : Nat) : below m 0 := ⟨Int.le_refl _, two_pos m⟩
def closed (net : List Int) (x : Int) : Prop := ∀ (k : Nat) (y : Int), net[k]? = some y → ib x k = true → sub y x
structure Least (net : List Int) (x r : Int) : Prop where
  has : sub x r
  clo : closed net r
  out : ∀ c, sub x c → closed net c → sub r c
theorem Least.unique {net : List Int} {x r r' : Int} (h : Least net x r) (h' : Least net x r') : r = r' := sub_antisymm (h.out _ h'.has h'.clo) (h'.out _ h.has h.clo)
inductive Way (net : List Int) : Nat → Nat → Prop where
  | refl (a : Nat) : Way net a a
  | step {a b c : Nat} {y : Int} : Way net a b → net[b]? = some y → ib y c = true → Way net a c
theorem Way.trans {net : List Int} {a b c : Nat} (h : Way net a b) (w : Way net b c) : Way net a c := by
  induction w with
  | refl => exact h
  | step _ e q ih => exact .step ih e q
theorem closed.way {net : List Int} {x : Int} (h : closed net x) {a b : Nat} (w : Way net a b) (ha : ib x a = true) : ib x b = true := by
  induction w with
  | refl => exact ha
  | step _ e q ih => exact h _ _ e ih _ q
theorem least_of_ways {net : List Int} {x r : Int} (hx : sub x r) (hc : closed net r) (hw : ∀ b, ib r b = true → ∃ a, ib x a = true ∧ Way net a b) : Least net x r :=
  ⟨hx, hc, fun c h1 h2 b hb => let ⟨a, ha, w⟩ := hw b hb; h2.way w (h1 a ha)⟩
end BS
set_option Elab.async false
set_option linter.all false
set_option maxRecDepth 100000
namespace BS
open PySem PySem.Builtin PyProof.Rows
def cnt (x : Int) : Nat → Nat
  | 0 => 0
  | k + 1 => cnt x k + (if ib x k = true then 1 else 0)
theorem cnt_le (x : Int) : ∀ k, cnt x k ≤ k
  | 0 => Nat.le_refl _
  | k + 1 => by have := cnt_le x k; simp only [cnt]; split <;> omega
theorem cnt_mono {x y : Int} (h : sub x y) : ∀ k, cnt x k ≤ cnt y k
  | 0 => Nat.le_refl _
  | k + 1 => by
    have := cnt_mono h k
    simp only [cnt]
    by_cases q : ib x k = true
    · rw [if_pos q, if_pos (h k q)]; omega
    · rw [if_neg q]; omega
theorem cnt_lt {x y : Int} (h : sub x y) {j : Nat} (hy : ib y j = true) (hx : ib x j = false) : ∀ k, j < k → cnt x k < cnt y k
  | 0, q => by omega
  | k + 1, q => by
    simp only [cnt]
    by_cases e : j = k
    · subst e
      have := cnt_mono h j
      rw [if_pos hy, hx, if_neg (by decide)]; omega
    · have := cnt_lt h hy hx k (by omega)
      by_cases q : ib x k = true
      · rw [if_pos q, if_pos (h k q)]; omega
      · rw [if_neg q]; omega
theorem cnt_full {x : Int} : ∀ {k}, cnt x k = k → ∀ j < k, ib x j = true
  | 0, _, j, h => by omega
  | k + 1, e, j, h => by
    simp only [cnt] at e
    have := cnt_le x k
    by_cases q : ib x k = true
    · rw [if_pos q] at e
      by_cases ej : j = k
      · subst ej; exact q
      · exact cnt_full (k := k) (by omega) j (by omega)
    · rw [if_neg q] at e; omega
def sw (net : List Int) : Nat → Int → Int
  | 0, x => x
  | k + 1, x => if ib (sw net k x) k = true then bitOr (sw net k x) (net.getD k 0) else sw net k x
def rounds (net : List Int) : Nat → Int → Int
  | 0, x => x
  | t + 1, x => sw net net.length (rounds net t x)
section
variable {net : List Int}
theorem sw_has (x : Int) : ∀ k, sub x (sw net k x)
  | 0 => sub_refl x
  | k + 1 => by
    simp only [sw]
    split
    · exact sub_trans (sw_has x k) (sub_or_left _ _)
    · exact sw_has x k
theorem sw_step (x : Int) (k : Nat) : sub (sw net k x) (sw net (k + 1) x) := by
  simp only [sw]
  split
  · exact sub_or_left _ _
  · exact sub_refl _
theorem sw_le (x : Int) {j k : Nat} (h : j ≤ k) : sub (sw net j x) (sw net k x) := by
  induction h with
  | refl => exact sub_refl _
  | step _ ih => exact sub_trans ih (sw_step x _)
theorem sw_way (x : Int) : ∀ k b, ib (sw net k x) b = true → ∃ a, ib x a = true ∧ Way net a b
  | 0, b, h => ⟨b, h, .refl b⟩
  | k + 1, b, h => by
    simp only [sw] at h
    by_cases q : ib (sw net k x) k = true
    · rw [if_pos q, ib_or, Bool.or_eq_true] at h
      rcases h with h | h
      · exact sw_way x k b h
      · obtain ⟨a, ha, w⟩ := sw_way x k k q
        cases e : net[k]? with
        | none => rw [List.getD_eq_getElem?_getD, e, Option.getD_none, ib_zero] at h; cases h
        | some y =>
          rw [List.getD_eq_getElem?_getD, e, Option.getD_some] at h
          exact ⟨a, ha, .step w e h⟩
    · rw [if_neg q] at h
      exact sw_way x k b h
theorem sw_fix {x : Int} (h : sw net net.length x = x) : closed net x := fun k y e hk => by
  have hl : k < net.length := (List.getElem?_eq_some_iff.mp e).1
  have h1 : sub (sw net (k + 1) x) x := by
    have := sw_le (net := net) x (j := k + 1) (k := net.length) hl
    rw [h] at this
    exact this
  have h2 : ib (sw net k x) k = true := sw_has x k k hk
  have h3 : sw net (k + 1) x = bitOr (sw net k x) (net.getD k 0) := by simp only [sw]; rw [if_pos h2]
  rw [h3, List.getD_eq_getElem?_getD, e, Option.getD_some] at h1
  exact sub_trans (sub_or_right _ _) h1
theorem sw_below {m : Nat} (hn : ∀ y ∈ net, below m y) {x : Int} (hx : below m x) : ∀ k, below m (sw net k x)
  | 0 => hx
  | k + 1 => by
    simp only [sw]
    split
    · refine below_or (sw_below hn hx k) ?_
      cases e : net[k]? with
      | none => rw [List.getD_eq_getElem?_getD, e]; exact below_zero m
      | some y => rw [List.getD_eq_getElem?_getD, e]; exact hn y (List.mem_of_getElem? e)
    · exact sw_below hn hx k
theorem rounds_has (x : Int) : ∀ t, sub x (rounds net t x)
  | 0 => sub_refl x
  | t + 1 => sub_trans (rounds_has x t) (sw_has _ _)
theorem rounds_way (x : Int) : ∀ t b, ib (rounds net t x) b = true → ∃ a, ib x a = true ∧ Way net a b
  | 0, b, h => ⟨b, h, .refl b⟩
  | t + 1, b, h => by
    obtain ⟨c, hc, w⟩ := sw_way _ _ b h
    obtain ⟨a, ha, w'⟩ := rounds_way x t c hc
    exact ⟨a, ha, w'.trans w⟩
theorem rounds_below {m : Nat} (hn : ∀ y ∈ net, below m y) {x : Int} (hx : below m x) : ∀ t, below m (rounds net t x)
  | 0 => hx
  | t + 1 => sw_below hn (rounds_below hn hx t) _
theorem rounds_more {m : Nat} (hn : ∀ y ∈ net, below m y) {x : Int} (hx : below m x) : ∀ t, sw net net.length (rounds net t x) = rounds net t x ∨ t ≤ cnt (rounds net t x) m
  | 0 => .inr (Nat.zero_le _)
  | t + 1 => by
    by_cases e : sw net net.length (rounds net t x) = rounds net t x
    · refine .inl ?_
      simp only [rounds]
      rw [e, e]
    · refine .inr ?_
      have h1 : t ≤ cnt (rounds net t x) m := (rounds_more hn hx t).resolve_left e
      have hs := sw_has (net := net) (rounds net t x) net.length
      obtain ⟨j, hj, hj'⟩ : ∃ j, ib (sw net net.length (rounds net t x)) j = true ∧ ib (rounds net t x) j = false := by
        refine Classical.byContradiction fun n => e (sub_antisymm (fun k hk => ?_) hs)
        cases q : ib (rounds net t x) k with
        | true => rfl
        | false => exact (n ⟨k, hk, q⟩).elim
      have hb := (sw_below hn (rounds_below hn hx t) net.length).bit hj
      have := cnt_lt hs hj hj' m hb
      simp only [rounds]
      omega
theorem rounds_least (hn : ∀ y ∈ net, below net.length y) {x : Int} (hx : below net.length x) : Least net x (rounds net net.length x) := by
  refine least_of_ways (rounds_has x _) ?_ (rounds_way x _)
  rcases rounds_more hn hx net.length with h | h
  · exact sw_fix h
  · have hf := cnt_full (Nat.le_antisymm (cnt_le _ _) h)
    intro k y e _ j hj
    exact hf j ((hn y (List.mem_of_getElem? e)).bit hj)
theorem Least.way {x r : Int} (h : Least net x r) (hn : ∀ y ∈ net, below net.length y) (hx : below net.length x) (b : Nat) : ib r b = true ↔ ∃ a, ib x a = true ∧ Way net a b := by
  have e := h.unique (rounds_least hn hx)
  constructor
  · intro hb; rw [e] at hb; exact rounds_way x _ b hb
  · rintro ⟨a, ha, w⟩; exact h.clo.way w (h.has a ha)
theorem Least.below {x r : Int} (h : Least net x r) (hn : ∀ y ∈ net, below net.length y) (hx : below net.length x) : below net.length r := by
  rw [h.unique (rounds_least hn hx)]; exact rounds_below hn hx _
end
end BS
set_option Elab.async false
set_option linter.all false
set_option maxRecDepth 100000
set_option maxHeartbeats 4000000
namespace K20
open PySem L2 VT BS
open PySem.Builtin (bitOr)
abbrev Ent := (Int × Str) × Int
def kK (k : Int × Str) : List Key := [.inl k.1, .inr k.2]
theorem kK_inj {a b : Int × Str} : kK a = kK b ↔ a = b := by
  constructor
  · intro h
    unfold kK at h
    injection h with h1 h2
    injection h2 with h2 h3
    injection h1 with h1
    injection h2 with h2
    exact Prod.ext h1 h2
  · rintro rfl; rfl
def ksE (E : List Ent) : List (List Key) := E.map fun e => kK e.1
def vsE (E : List Ent) : List T := E.map fun e => .int e.2
def tri (e : Ent) : T := .tup [.int e.1.1, .str e.1.2, .int e.2]
structure Good (E : List Ent) (n : Nat) : Prop where
  nd : (E.map (·.1)).Nodup
  len : E.length ≤ n
  pos : ∀ e ∈ E, 0 ≤ e.1.1
def hasE (E : List Ent) (k : Int × Str) : Bool := E.any fun e => decide (e.1 = k)
def putE (E : List Ent) (k : Int × Str) (v : Int) : List Ent := if hasE E k = true then E.map (fun e => if e.1 = k then (e.1, v) else e) else E ++ [(k, v)]
theorem has_ks (E : List Ent) (k : Int × Str) : gHas (ksE E) (kK k) = hasE E k := by
  unfold gHas ksE hasE
  rw [List.any_map]
  congr 1
  funext e
  exact decide_eq_decide.mpr kK_inj
theorem ks_put (E : List Ent) (k : Int × Str) (v : Int) : gKs (ksE E) (kK k) = ksE (putE E k v) := by
  unfold gKs putE
  rw [has_ks]
  by_cases h : hasE E k = true
  · rw [if_pos h, if_pos h]
    unfold ksE
    rw [List.map_map]
    refine List.map_congr_left fun e _ => ?_
    show kK e.1 = kK (if e.1 = k then (e.1, v) else e).1
    split <;> rfl
  · rw [if_neg h, if_neg h]
    unfold ksE
    rw [List.map_append]; rfl
theorem vs_put (E : List Ent) (k : Int × Str) (v : Int) : gVs (ksE E) (vsE E) (kK k) (.int v) = vsE (putE E k v) := by
  unfold gVs putE
  rw [has_ks]
  by_cases h : hasE E k = true
  · rw [if_pos h, if_pos h]
    clear h
    unfold ksE vsE
    induction E with
    | nil => rfl
    | cons e E ih =>
      simp only [List.map_cons, List.zipWith_cons_cons]
      rw [ih]
      congr 1
      by_cases z : e.1 = k
      · rw [if_pos z, if_pos (kK_inj.mpr z)]
      · rw [if_neg z, if_neg (fun q => z (kK_inj.mp q))]
  · rw [if_neg h, if_neg h]
    unfold vsE
    rw [List.map_append]; rfl
theorem Good.put {E : List Ent} {n : Nat} (g : Good E n) {k : Int × Str} {v : Int} (hk : 0 ≤ k.1) : Good (putE E k v) (n + 1) := by
  unfold putE
  by_cases h : hasE E k = true
  · rw [if_pos h]
    have e : ∀ F : List Ent, (F.map (fun e => if e.1 = k then (e.1, v) else e)).map (·.1) = F.map (·.1) := fun F => by
      rw [List.map_map]
      refine List.map_congr_left fun e _ => ?_
      show (if e.1 = k then (e.1, v) else e).1 = e.1
      split <;> rfl
    refine ⟨by rw [e]; exact g.nd, by rw [List.length_map]; have := g.len; omega, fun x hx => ?_⟩
    obtain ⟨y, hy, rfl⟩ := List.mem_map.mp hx
    have := g.pos y hy
    split <;> exact this
  · rw [if_neg h]
    refine ⟨?_, by have := g.len; rw [List.length_append, List.length_singleton]; omega, fun x hx => ?_⟩
    · rw [List.map_append, List.nodup_append]
      refine ⟨g.nd, by simp, fun a ha b hb e => ?_⟩
      have hb : b = k := by simpa using hb
      subst e
      subst hb
      obtain ⟨y, hy, e⟩ := List.mem_map.mp ha
      exact h (List.any_eq_true.mpr ⟨y, hy, decide_eq_true e⟩)
    · rcases List.mem_append.mp hx with z | z
      · exact g.pos x z
      · rw [List.mem_singleton.mp z]; exact hk
theorem Good.mono {E : List Ent} {n m : Nat} (g : Good E n) (h : n ≤ m) : Good E m := ⟨g.nd, Nat.le_trans g.len h, g.pos⟩
theorem good_nil : Good [] 0 := ⟨List.nodup_nil, Nat.le_refl _, fun e h => nomatch h⟩
def stE (p : Int × Str → Bool) (b : Int) (e : Ent) : Int := if p e.1 = true then bitOr b e.2 else b
def orE (p : Int × Str → Bool) (E : List Ent) : Int := E.foldl (stE p) 0
theorem ib_zero (k : Nat) : ib 0 k = false := by
  have : ib ((0 : Nat) : Int) k = (0 : Nat).testBit k := ib_nat 0 k
  rw [Nat.zero_testBit] at this
  exact this
theorem ib_orE (p : Int × Str → Bool) (k : Nat) : ∀ (E : List Ent) (b : Int), ib (E.foldl (stE p) b) k = (ib b k || E.any fun e => p e.1 && ib e.2 k)
  | [], b => by simp
  | e :: E, b => by
    rw [List.foldl_cons, ib_orE p k E, List.any_cons]
    unfold stE
    cases p e.1 with
    | true => rw [if_pos rfl, ib_or, Bool.true_and, Bool.or_assoc]
    | false => rw [if_neg Bool.false_ne_true, Bool.false_and, Bool.false_or]
theorem or_perm {p : Int × Str → Bool} {E F : List Ent} (h : E.Perm F) : orE p E = orE p F := by
  refine ib_ext fun k => ?_
  unfold orE
  rw [ib_orE, ib_orE]
  congr 1
  rw [Bool.eq_iff_iff, List.any_eq_true, List.any_eq_true]
  exact ⟨fun ⟨x, hx, e⟩ => ⟨x, h.mem_iff.mp hx, e⟩, fun ⟨x, hx, e⟩ => ⟨x, h.mem_iff.mpr hx, e⟩⟩
theorem or_take {p : Int × Str → Bool} {E : List Ent} {i : Nat} {e : Ent} (h : E[i]? = some e) : orE p (E.take (i + 1)) = stE p (orE p (E.take i)) e := by
  unfold orE
  rw [List.take_add_one, h, List.foldl_append]; rfl
theorem get_of {E : List Ent} (nd : (E.map (·.1)).Nodup) {e : Ent} (h : e ∈ E) : gGet (ksE E) (vsE E) (kK e.1) = some (.int e.2) := by
  induction E with
  | nil => cases h
  | cons x E ih =>
    show (if kK x.1 = kK e.1 then some (T.int x.2) else gGet (ksE E) (vsE E) (kK e.1)) = _
    rw [List.map_cons, List.nodup_cons] at nd
    rcases List.mem_cons.mp h with rfl | h
    · rw [if_pos rfl]
    · rw [if_neg (fun z => nd.1 (by rw [kK_inj.mp z]; exact List.mem_map_of_mem h)), ih nd.2 h]
theorem get_or {E : List Ent} (nd : (E.map (·.1)).Nodup) (k : Int × Str) : (gGet (ksE E) (vsE E) (kK k)).getD (.int 0) = .int (orE (fun x => decide (x = k)) E) := by
  have key : ∀ (E : List Ent), (E.map (·.1)).Nodup → (gGet (ksE E) (vsE E) (kK k)).getD (.int 0) = .int (orE (fun x => decide (x = k)) E) := by
    intro E
    induction E with
    | nil => intro _; rfl
    | cons x E ih =>
      intro nd
      rw [List.map_cons, List.nodup_cons] at nd
      show (if kK x.1 = kK k then some (T.int x.2) else gGet (ksE E) (vsE E) (kK k)).getD (.int 0) = _
      by_cases z : x.1 = k
      · rw [if_pos (kK_inj.mpr z)]
        show T.int x.2 = _
        congr 1
        refine ib_ext fun j => ?_
        unfold orE
        rw [ib_orE, ib_zero, Bool.false_or, List.any_cons, decide_eq_true z, Bool.true_and]
        have : (E.any fun e => decide (e.1 = k) && ib e.2 j) = false := by
          rw [List.any_eq_false]
          intro e he hh
          rw [Bool.and_eq_true, decide_eq_true_eq] at hh
          exact nd.1 (by rw [z, ← hh.1]; exact List.mem_map_of_mem he)
        rw [this, Bool.or_false]
      · rw [if_neg (fun q => z (kK_inj.mp q)), ih nd.2]
        congr 1
        show _ = (x :: E).foldl (stE _) 0
        rw [List.foldl_cons]
        unfold stE
        rw [if_neg (by simp [z])]; rfl
  exact key E nd
theorem perm_map {α β : Type} (f : α → β) : ∀ {zs ys : List β}, zs.Perm ys → ∀ {E : List α}, ys = E.map f → ∃ F : List α, F.Perm E ∧ zs = F.map f := by
  intro zs ys p
  induction p with
  | nil => intro E e; cases E with
    | nil => exact ⟨[], .nil, rfl⟩
    | cons a E => cases e
  | cons x _ ih =>
    intro E e
    cases E with
    | nil => cases e
    | cons a E =>
      rw [List.map_cons] at e
      injection e with e1 e2
      obtain ⟨F, p, q⟩ := ih e2
      exact ⟨a :: F, p.cons a, by rw [List.map_cons, q, e1]⟩
  | swap x y l =>
    intro E e
    cases E with
    | nil => cases e
    | cons a E => cases E with
      | nil => rw [List.map_cons, List.map_nil] at e; injection e with _ e; cases e
      | cons b E =>
        rw [List.map_cons, List.map_cons] at e
        injection e with e1 e2
        injection e2 with e2 e3
        exact ⟨b :: a :: E, .swap _ _ _, by rw [List.map_cons, List.map_cons, e1, e2, e3]⟩
  | trans _ _ ih1 ih2 =>
    intro E e
    obtain ⟨F, p, q⟩ := ih2 e
    obtain ⟨F', p', q'⟩ := ih1 q
    exact ⟨F', p'.trans p, q'⟩
end K20
set_option Elab.async false
set_option linter.all false
set_option maxRecDepth 100000
set_option maxHeartbeats 4000000
namespace Gen
open PySem L2 VT
open K01 (letters inL nameS)
theorem letC_in (n : Int) : inL (letC n) = true := by
  have h0 : 0 ≤ n % 26 := Int.emod_nonneg n (by decide)
  have h1 : n % 26 < 26 := Int.emod_lt_of_pos n (by decide)
  have h : ∀ j < 26, inL (letters.cps.toList.getD j 0) = true := by decide +kernel
  exact h _ (by omega)
theorem wordK_name {c : Int} {k n : Nat} (h1 : 1 ≤ n) (h8 : n ≤ 8) : nameS (wordK c k n) = true := by
  unfold nameS
  rw [wordK_len, decide_eq_true (by omega), decide_eq_true (by omega), Bool.true_and, Bool.true_and]
  show ((List.range n).map fun j => letC (numJ c k j)).all inL = true
  rw [List.all_map]
  exact List.all_eq_true.mpr fun j _ => letC_in _
theorem app_name {x : Str} {n : Int} (h : nameS x = true) (hl : x.length ≤ 7) : nameS (x ++ ⟨#[letC n]⟩) = true := by
  have hx := K01.name_letters h
  have el : (x ++ (⟨#[letC n]⟩ : Str)).length = x.length + 1 := by
    show (x.cps ++ #[letC n]).size = _
    simp [Str.length]
  unfold nameS
  rw [el, decide_eq_true (by omega), decide_eq_true (by omega), Bool.true_and, Bool.true_and]
  show (x.cps ++ #[letC n]).toList.all inL = true
  simp only [Array.toList_append, List.all_append, hx, Bool.true_and]
  simp [letC_in]
theorem mem_words {c : Int} {m : Nat} {y : Str} (h : y ∈ wordsL c m) : (∃ k < m, y = wordK c k (szN c)) ∨ y = wordK c 0 (szN c) ++ ⟨#[letC (c12 c / 147)]⟩ := by
  have hz : ∀ {y}, y ∈ ((List.range m).map fun k => wordK c k (szN c)) → ∃ k < m, y = wordK c k (szN c) := fun h => by
    obtain ⟨k, hk, rfl⟩ := List.mem_map.mp h
    exact ⟨k, List.mem_range.mp hk, rfl⟩
  unfold wordsL at h
  split at h
  · rcases List.mem_or_eq_of_mem_set h with h | h
    · exact .inl (hz h)
    · exact .inr h
  · exact .inl (hz h)
theorem words_name {c : Int} {m : Nat} : ∀ y ∈ wordsL c m, nameS y = true := by
  intro y hy
  have hs := sz_pos c
  rcases mem_words hy with ⟨k, _, rfl⟩ | rfl
  · exact wordK_name (by omega) (by omega)
  · exact app_name (wordK_name (by omega) (by omega)) (by rw [wordK_len]; omega)
end Gen
set_option Elab.async false
set_option linter.all false
set_option maxRecDepth 100000
set_option maxHeartbeats 4000000
namespace VT
open PySem PySem.Spec PyProof.Rows L2
section
variable {X : Cx} {Z : Zc} {a b : Expr} {fa fb : FE} {pos : Pos}
end
end VT
set_option Elab.async false
set_option linter.all false
set_option maxRecDepth 100000
set_option maxHeartbeats 4000000
namespace RV
open PySem PySem.Spec PyProof.Rows
def IsRev (h : Heap) (it l : Addr) (i : Int) : Prop := ∃ o, h.get? it = some o ∧ o.cls = .type "list_reverseiterator" ∧ o.data = .fields #[.ref l, .int i 0]
section
variable {prog : Program} {w : World} {A : Around} {E : Value → Shared → Prop} {s : Shared}
theorem IsRev.typeIs {it l : Addr} {i : Int} (h : IsRev s.heap it l i) : s.TypeIs (.ref it) "list_reverseiterator" := let ⟨o, ho, hc, _⟩ := h; ⟨o, ho, hc⟩
end
theorem IsRev.at {h h' : Heap} {it l : Addr} {i : Int} (x : IsRev h it l i) (k : ∀ o, h.get? it = some o → h'.get? it = some o) : IsRev h' it l i := let ⟨o, ho, r⟩ := x; ⟨o, k o ho, r⟩
section
variable {prog : Program} {w : World} {A : Around} {s : Shared} {R : Result → Shared → Prop}
variable {I : Addr} {fp wr : List Addr} {G : Array GenState → Array GenState → Prop} {n : Nat} {P : Nat → Value → Prop} {St : Nat → Shared → Prop}
def Ends (prog : Program) (w : World) (A : Around) (I : Addr) (wr : List Addr) (G : Array GenState → Array GenState → Prop) (n : Nat) (St : Nat → Shared → Prop) : Prop :=
  ∀ (s : Shared) (Q : Option Value → Shared → Prop) (E : Value → Shared → Prop), St n s → (∀ s', Moved wr G s s' → (∃ o, s'.heap.get? I = some o) → Q none s') → wpAny (model prog w) A (pyNext (.ref I)) Q E s
end
section
variable {prog : Program} {w : World} {A : Around} {E : Value → Shared → Prop} {s : Shared}
variable {I : Addr} {fp wr : List Addr} {G : Array GenState → Array GenState → Prop} {n : Nat} {P : Nat → Value → Prop} {St : Nat → Shared → Prop}
end
end RV
set_option Elab.async false
set_option linter.all false
set_option maxRecDepth 100000
set_option maxHeartbeats 4000000
namespace RV
open PySem PySem.Spec PyProof.Rows
section
variable {prog : Program} {w : World} {A : Around} {E : Value → Shared → Prop} {s : Shared}
end
end RV
namespace VT
open PySem PySem.Spec PyProof.Rows L2
section
variable {X : Cx}
end
section
variable {X : Cx} {Z : Zc} {a : Expr} {fa : FE} {p1 p2 pos1 pos2 : Pos}
end
end VT
set_option Elab.async false
set_option linter.all false
set_option maxRecDepth 100000
set_option maxHeartbeats 4000000
namespace VT
open PySem PySem.Spec PyProof.Rows L2
theorem u1_of {n : Nat} (h : n + 101 < cLine) : n + 1 < cLine := by omega
section
variable {X : Cx} {Z : Zc} {ek ev : Expr} {fk fv : FE} {pos : Pos}
end
end VT
set_option Elab.async false
set_option linter.all false
set_option maxRecDepth 100000
set_option maxHeartbeats 4000000
namespace VT
open PySem PySem.Spec PyProof.Rows L2
def EntOk (w : World) (K : PySem.W.Frag) (e : DictEntry) (p : Str × T) : Prop := e.hash = PyData.keyHash w.params p.1 ∧ (∃ t, e.key = .str p.1 t) ∧ ∃ v, RelV v e.val ∧ ∀ H A, At K H A p.2 v
def KDict (w : World) (K : PySem.W.Frag) (a : Addr) (l : List (Str × T)) : Prop := ∃ es ep, K.lookup a = some ⟨.type "dict", none, .dict es ep, #[]⟩ ∧ (a == sysModules) = false ∧ Paired (EntOk w K) es.toList l ∧ (l.map (·.1)).Nodup
theorem ents {P : Program} {w : World} {K : PySem.W.Frag} : ∀ {es : List DictEntry} {l : List (Str × T)}, Paired (EntOk w K) es l →
    ∃ (vs : List V) (us : List (Key × Value)), (∀ H A, AtL K H A (l.map (·.2)) vs) ∧ KV ((l.map fun p => (Sum.inr p.1 : Key)).zip vs) us ∧ PySem.Pairs (mixKind P w) es us ∧ us.map (·.1) = l.map (fun p => (Sum.inr p.1 : Key)) ∧ ∀ e ∈ es, ∃ k, (mixKind P w).is k e.key = true ∧ e.hash = (mixKind P w).hash k
  | _, _, .nil => ⟨[], [], fun _ _ => AtL.nil, .nil, .nil, rfl, fun _ h => nomatch h⟩
  | _, _, .cons (a := e) (b := p) r t => by
    obtain ⟨vs, us, h1, h2, h3, h4, h5⟩ := ents (P := P) t
    obtain ⟨r1, ⟨tk, r2⟩, v, r3, r4⟩ := r
    have hk : (mixKind P w).is (Sum.inr p.1) e.key = true := by
      rw [r2]
      show Value.isStrOf p.1 (.str p.1 tk) = true
      simp [Value.isStrOf]
    refine ⟨v :: vs, (Sum.inr p.1, e.val) :: us, fun H A => AtL.cons (r4 H A) (h1 H A), .cons ⟨rfl, r3⟩ h2, .cons hk rfl h3, by rw [List.map_cons, List.map_cons, h4], fun e' he => ?_⟩
    rcases List.mem_cons.mp he with q | q
    · subst q
      exact ⟨Sum.inr p.1, hk, r1⟩
    · exact h5 e' q
theorem KDict.of {X : Cx} {pins : List (Addr × Obj)} {σ : St} {H : Hp} {s : Shared} {a : Addr} {l : List (Str × T)} (I : Inv X pins σ H s) (d : KDict X.w X.K a l) :
    ∃ (vs : List V) (us : List (Key × Value)), (∀ H A, AtL X.K H A (l.map (·.2)) vs) ∧ KV ((l.map fun p => (Sum.inr p.1 : Key)).zip vs) us ∧ s.heap.DictOf (mixKind X.prog X.w) a us ∧ (a == sysModules) = false := by
  obtain ⟨es, ep, lk, hs, hp, nd⟩ := d
  obtain ⟨vs, us, h1, h2, h3, h4, h5⟩ := ents (P := X.prog) hp
  refine ⟨vs, us, h1, h2, ⟨_, es, ep, I.kIn a _ lk, ⟨rfl, rfl, rfl⟩, rfl, fun e he => h5 e (by simpa using he), h3, ?_⟩, hs⟩
  rw [h4]
  have e : (l.map fun p => (Sum.inr p.1 : Key)) = (l.map (·.1)).map Sum.inr := by rw [List.map_map]; rfl
  rw [e]
  exact List.Pairwise.map _ (fun a b h z => h (Sum.inr.inj z)) nd
section
variable {X : Cx} {Z : Zc} {e c : Expr} {fe fc : FE} {x : Str} {p apos cpos : Pos} {a : Addr} {l : List (Str × T)}
end
end VT
set_option Elab.async false
set_option linter.all false
set_option maxRecDepth 100000
set_option maxHeartbeats 4000000
namespace VT
open PySem PySem.Spec PyProof.Rows L2
section
variable {X : Cx}
end
section
variable {X : Cx} {Z : Zc} {a b e : Expr} {fa fb : FE} {pos : Pos}
end
abbrev FPs := En → (List (Key × T) → Prop) → Prop
section
variable {X : Cx} {Z : Zc} {ek ev : Expr} {fk fv : FE} {pos : Pos} {keys : List (Option Expr)} {values : List Expr} {f : FPs}
variable {e : Expr} {apos cpos : Pos}
end
end VT
set_option Elab.async false
set_option linter.all false
set_option maxRecDepth 100000
set_option maxHeartbeats 4000000
namespace VT
open PySem PySem.Spec PyProof.Rows L2
section
variable {X : Cx}
end
section
variable {X : Cx} {Z : Zc} {a b : Expr} {fa fb : FE} {pos : Pos}
end
end VT
set_option Elab.async false
set_option linter.all false
set_option maxRecDepth 100000
set_option maxHeartbeats 4000000
namespace VT
open PySem PySem.Spec PyProof.Rows L2
section
variable {X : Cx} {Z : Zc}
end
section
variable {X : Cx} {Z : Zc} {e1 e2 : Expr} {f1 f2 : FE} {apos cpos : Pos}
end
end VT
set_option Elab.async false
set_option linter.all false
set_option maxRecDepth 100000
set_option maxHeartbeats 4000000
namespace VT
open PySem PySem.Spec PyProof.Rows L2
structure Deep (K : PySem.W.Frag) (H H' : Hp) (Ox : List Addr) (us : List T) (p : Addr) (ls : List Addr) : Prop where
  same : Same H H'
  tup : H' p = some (.tup (ls.map V.ref))
  nd : ls.Nodup
  new : ∀ a ∈ ls, H a = none
  rts : Paired (fun a t => Root K H' (ls ++ Ox) a t) ls us
structure FinD (K : PySem.W.Frag) (Z : Zc) (tm : List (T × V)) (d : VEn) (dp : List T → Prop) (D : Ends) : Prop where
  fin : Fin K Z tm d D
  dp : ∀ us, dp us → ∀ p ls H', Deep K Z.H0 H' Z.Ox us p ls → D.rt (.ref p) H'
abbrev FSD := VEn → (List T → Prop) → En → Prop
def lSD (X : Cx) (Z : Zc) (tm : List (T × V)) (g : FSD) : TS := fun D σ H => ∃ ρ O d dp, EnvAt X.K Z tm O ρ σ H ∧ g d dp ρ ∧ FinD X.K Z tm d dp D
def VSsD (X : Cx) (Z : Zc) (st : List Stmt) (g : FSD) : Prop := Bx fun tm => PSs X st (lSD X Z tm g)
instance {X : Cx} {Z : Zc} {st : List Stmt} {g : FSD} : CoeFun (VSsD X Z st g) fun _ => ∀ tm, PSs X st (lSD X Z tm g) := ⟨fun h => Bx.h h⟩
section
variable {X : Cx} {Z : Zc} {st : Stmt} {rest : List Stmt} {g : FS} {u : FSD} {pos : Pos}
theorem VSsD.weak {u' : FSD} (h : VSsD X Z rest u) (hw : ∀ d dp ρ, u' d dp ρ → u d dp ρ) : VSsD X Z rest u' := .mk fun tm => PSs.weak' (h tm) fun D σ H ⟨ρ, O, d, dp, I, q, F⟩ => ⟨ρ, O, d, dp, I, hw d dp ρ q, F⟩
end
section
variable {P : Program} {w : World} {K : PySem.W.Frag} {mg : Str → Option Value} {base : Heap}
end
end VT
set_option Elab.async false
set_option linter.all false
set_option maxRecDepth 100000
set_option maxHeartbeats 4000000
namespace VT
open PySem PySem.Spec PyProof.Rows L2
section
variable {X : Cx} {Z : Zc} {k n : Nat} {f : Addr} {fd : FuncData} {ps : List Str} {G : List T → (List T → Prop) → Prop} {x : Str} {p pos : Pos} {e : Expr} {es : List Expr} {g : FA}
def lD (X : Cx) (Z : Zc) (tm : List (T × V)) (f : En → (List T → Prop) → Prop) : TE := fun σ H Q => ∃ ρ O q, EnvAt X.K Z tm O ρ σ H ∧ f ρ q ∧ ∀ us, q us → ∀ p ls H', Deep X.K H H' (av Z O) us p ls → Q (.ref p) H'
def VD (X : Cx) (Z : Zc) (e : Expr) (f : En → (List T → Prop) → Prop) : Prop := Bx fun tm => PE X e (lD X Z tm f)
instance {X : Cx} {Z : Zc} {e : Expr} {f : En → (List T → Prop) → Prop} : CoeFun (VD X Z e f) fun _ => ∀ tm, PE X e (lD X Z tm f) := ⟨fun h => Bx.h h⟩
theorem Deep.at {K : PySem.W.Frag} {tm : List (T × V)} {O : List (Option Addr)} {ρ : En} {σ : St} {H H' : Hp} {us : List T} {p : Addr} {ls : List Addr} (I : EnvAt K Z tm O ρ σ H) (D : Deep K H H' (av Z O) us p ls) : At K H' (av Z O) (.tup us) (.ref p) := by
  refine at_tup (SqT.of D.tup) (AtL.iff.mpr ?_)
  have key : ∀ {ls' : List Addr} {us' : List T}, (∀ a ∈ ls', a ∈ ls) → Paired (fun a t => Root K H' (ls ++ av Z O) a t) ls' us' → Paired (fun v t => At K H' (av Z O) t v) (ls'.map V.ref) us' := by
    intro ls' us' sub h
    induction h with
    | nil => exact .nil
    | cons r t ih =>
      refine .cons ((r.fewer fun b hb => List.mem_append_right _ hb).at fun z => ?_) (ih fun a ha => sub a (List.mem_cons_of_mem _ ha))
      exact I.avH _ z (D.new _ (sub _ List.mem_cons_self))
  exact key (fun _ h => h) D.rts
def fTupD (f : En → (List T → Prop) → Prop) : FP := fun ρ Q => f ρ fun us => Q (.vw (.tup us))
theorem VD.vp {f : En → (List T → Prop) → Prop} (h : VD X Z e f) : VP X Z e (fTupD f) := .mk fun tm => PE.weak (h tm) fun σ H Q ⟨ρ, O, q, I, hf, k⟩ =>
  ⟨ρ, O, _, I, hf, fun us hu p ls H' D => k _ hu _ H' D.same ⟨I.same D.same, D.at I⟩⟩
end
theorem EnvAt.scrap {K : PySem.W.Frag} {Z : Zc} {tm : List (T × V)} {O : List (Option Addr)} {ρ : En} {σ : St} {H : Hp} (I : EnvAt K Z tm O ρ σ H) {i : Nat} (s : Option V) (hp : NotPar Z i) : EnvAt K Z tm (O.set i none) (ρ.set i none) (σ.set i s) H := by
  have J := I.forget hp
  refine ⟨by simp [I.lσ], J.lO, fun j e h => ?_, J.nd, J.own, J.par, J.ox, J.keep, J.tmp⟩
  obtain ⟨o, w, h1, h2, h3⟩ := J.sl j e h
  rcases get_set h with ⟨rfl, rfl, hl⟩ | ⟨ne, h'⟩
  · exact ⟨o, s, h1, by rw [List.getElem?_set_self (by rw [I.lσ]; exact hl)], h3⟩
  · exact ⟨o, w, h1, by rw [List.getElem?_set_ne (Ne.symm ne)]; exact h2, h3⟩
section
variable {X : Cx} {Z : Zc}
end
end VT
namespace VT
open PySem PySem.Spec PyProof.Rows L2
section
variable {X : Cx} {Z : Zc}
end
end VT
set_option Elab.async false
set_option linter.all false
set_option maxRecDepth 100000
set_option maxHeartbeats 4000000
namespace VT
open PySem PySem.Spec PyProof.Rows L2
def msk (X : Cx) (i : Nat) (y : Str) : Cx := { X with N := X.N.set i y }
theorem ok_msk {X : Cx} {i : Nat} {y : Str} (o : X.Ok) : (msk X i y).Ok :=
  ⟨o.mod, o.kind, o.glob, o.blt, o.above, o.inj, o.has, o.cab, o.hd, o.frames, o.stk, o.exf, o.bs, o.bsz, o.noex, o.exfs, o.funs, o.frf⟩
theorem ok_unmsk {X : Cx} {i : Nat} {y : Str} (o : (msk X i y).Ok) : X.Ok :=
  ⟨o.mod, o.kind, o.glob, o.blt, o.above, o.inj, o.has, o.cab, o.hd, o.frames, o.stk, o.exf, o.bs, o.bsz, o.noex, o.exfs, o.funs, o.frf⟩
theorem inv_msk {X : Cx} {pins : List (Addr × Obj)} {σ : St} {H : Hp} {s : Shared} (i : Nat) (y : Str) (I : Inv X pins σ H s) : Inv (msk X i y) pins (σ.set i none) H s := by
  obtain ⟨m, hn, hl⟩ := I.loc
  refine ⟨ok_msk I.ok, I.os, I.bare, I.base, ⟨m, hn, fun j x v h1 h2 h3 => ?_⟩, I.cell, I.free, I.freeC, I.pin, I.hok, ?_⟩
  · rcases get_set h2 with ⟨_, e, _⟩ | ⟨ne, h2⟩
    · cases e
    · have h1' : (X.N.set i y)[j]? = some x := h1
      rw [List.getElem?_set_ne (Ne.symm ne)] at h1'
      exact hl j x v h1' h2 h3
  · show (σ.set i none).length = (X.N.set i y).length
    rw [List.length_set, List.length_set]; exact I.len
theorem inv_unmsk {X : Cx} {pins : List (Addr × Obj)} {σ : St} {H : Hp} {s : Shared} {i : Nat} {y : Str} (I : Inv (msk X i y) pins σ H s) : Inv X pins (σ.set i none) H s := by
  obtain ⟨m, hn, hl⟩ := I.loc
  refine ⟨ok_unmsk I.ok, I.os, I.bare, I.base, ⟨m, hn, fun j x v h1 h2 h3 => ?_⟩, I.cell, I.free, I.freeC, I.pin, I.hok, ?_⟩
  · rcases get_set h2 with ⟨_, e, _⟩ | ⟨ne, h2⟩
    · cases e
    · refine hl j x v ?_ h2 h3
      show (X.N.set i y)[j]? = some x
      rw [List.getElem?_set_ne (Ne.symm ne)]; exact h1
  · have := I.len
    have e : (msk X i y).N.length = X.N.length := by show (X.N.set i y).length = _; rw [List.length_set]
    rw [List.length_set]; omega
def dMask (i : Nat) (d : VEn) : VEn := { nx := fun ρ => d.nx (ρ.set i none), rt := fun ρ r => d.rt (ρ.set i none) r, bk := fun ρ => d.bk (ρ.set i none), ct := fun ρ => d.ct (ρ.set i none) }
def gMask (i : Nat) (g : FS) : FS := fun d ρ => g (dMask i d) (ρ.set i none)
def DMask (i : Nat) (D : Ends) : Ends := { nx := fun σ H => D.nx (σ.set i none) H, rt := D.rt, bk := fun σ H => D.bk (σ.set i none) H, ct := fun σ H => D.ct (σ.set i none) H }
theorem RetX.scrap {K : PySem.W.Frag} {Z : Zc} {tm : List (T × V)} {O : List (Option Addr)} {ρ : En} {σ : St} {H : Hp} {i : Nat} {r : Rt} {v : V} (s : Option V) (hp : NotPar Z i) (h : RetX K Z tm O ρ σ H r v) : RetX K Z tm (O.set i none) (ρ.set i none) (σ.set i s) H r v := by
  cases r with
  | vw t => exact ⟨h.1.scrap s hp, h.2.fewer (av_none_sub i)⟩
  | fr t =>
    obtain ⟨a, e, I, q, h0⟩ := h
    exact ⟨a, e, I.scrap (Z := Z.ex a) s hp, q.fewer (av_none_sub i), h0⟩
theorem fin_mask {K : PySem.W.Frag} {Z : Zc} {tm : List (T × V)} {d : VEn} {D : Ends} {i : Nat} (hp : NotPar Z i) (F : Fin K Z tm d D) : Fin K Z tm (dMask i d) (DMask i D) :=
  ⟨fun O ρ σ H I h => F.nx _ _ _ H (I.scrap none hp) h, fun O ρ σ H r v z h => F.rt _ _ _ H r v (z.scrap none hp) h, fun O ρ σ H I h => F.bk _ _ _ H (I.scrap none hp) h, fun O ρ σ H I h => F.ct _ _ _ H (I.scrap none hp) h⟩
section
variable {X : Cx} {Z : Zc} {st : Stmt} {sts : List Stmt} {g : FS}
theorem sp_mask {pins : List (Addr × Obj)} {D : Ends} {i : Nat} {y : Str} : ∀ {f : Flow} {s' : Shared}, SP (msk X i y) pins (DMask i D) f s' → SP X pins D f s'
  | .next, s', ⟨σ', H', I, q⟩ => ⟨σ'.set i none, H', inv_unmsk I, q⟩
  | .brk, s', ⟨σ', H', I, q⟩ => ⟨σ'.set i none, H', inv_unmsk I, q⟩
  | .cont, s', ⟨σ', H', I, q⟩ => ⟨σ'.set i none, H', inv_unmsk I, q⟩
  | .ret u, s', ⟨v, σ', H', I, r, q⟩ => ⟨v, σ'.set i none, H', inv_unmsk I, r, q⟩
theorem vs_mask (i : Nat) (y : Str) (hp : NotPar Z i) (h : VS (msk X i y) Z st g) : VS X Z st (gMask i g) := .mk fun tm pins s σ H D I ⟨ρ, O, d, J, q, F⟩ =>
  thn (h tm pins s (σ.set i none) H (DMask i D) (inv_msk i y I) ⟨ρ.set i none, O.set i none, dMask i d, J.scrap none hp, q, fin_mask hp F⟩) fun f s' z => sp_mask z
end
end VT
set_option Elab.async false
set_option linter.all false
set_option maxRecDepth 100000
set_option maxHeartbeats 4000000
namespace VT
open PySem PySem.Spec PyProof.Rows L2
section
variable {X : Cx} {Z : Zc} {o e : Expr} {fo fe : FE} {apos cpos : Pos}
end
end VT
set_option Elab.async false
set_option linter.all false
set_option maxRecDepth 100000
set_option maxHeartbeats 4000000
namespace VT
open PySem PySem.Spec PyProof.Rows L2
section
variable {X : Cx} {Z : Zc} {o e : Expr} {fo fe : FE} {apos cpos : Pos}
end
end VT
set_option Elab.async false
set_option linter.all false
set_option maxRecDepth 100000
set_option maxHeartbeats 4000000
namespace VT
open PySem PySem.Spec PyProof.Rows L2
theorem wComp_mapL {α : Type} {f u : α → T} {h : FG} {fe : FE} {ρ : En} : ∀ {xs : List α} {Q : List T → Prop}, (∀ x ∈ xs, ∀ r : T → Prop, r (u x) → h (f x) ρ fun ρ2 => fe ρ2 r) → Q (xs.map u) → wComp h fYes fe ρ (xs.map f) Q
  | [], Q, _, hq => hq
  | x :: xs, Q, step, hq => by
    simp only [List.map_cons, wComp]
    exact step x List.mem_cons_self (fun y => wComp h fYes fe ρ (xs.map f) fun us => Q (y :: us)) (wComp_mapL (Q := fun us => Q (u x :: us)) (fun y hy => step y (List.mem_cons_of_mem _ hy)) hq)
end VT
set_option Elab.async false
set_option linter.all false
set_option maxRecDepth 100000
set_option maxHeartbeats 4000000
namespace VT
open PySem PySem.Spec PyProof.Rows L2
def gNever : FS := fun _ _ => False
theorem vss_never {X : Cx} {Z : Zc} {ss : List Stmt} : VSs X Z ss gNever := .mk fun tm => fun pins s σ H D I h => by
  obtain ⟨_, _, _, _, q, _⟩ := h
  exact q.elim
end VT
set_option Elab.async false
set_option linter.all false
set_option maxRecDepth 100000
set_option maxHeartbeats 4000000
namespace K20L
open PySem L2 VT Gen K20 BS
def top (i : Nat) : Stmt := PySem.Challenge.pw_slicewise_k20_holds_and_keeps.main.body.getD i (.Pass ⟨0, 0, 0, 0⟩)
abbrev s_has : Stmt := top 1
abbrev s_holds : Stmt := top 3
abbrev s_keeps : Stmt := top 4
abbrev s_cell_at : Stmt := top 6
abbrev s_words : Stmt := top 7
abbrev s_same : Stmt := top 8
abbrev s_filled : Stmt := top 9
abbrev s_told : Stmt := top 10
abbrev s_kept : Stmt := top 11
abbrev s_law : Stmt := top 12
structure MgL (mg : Str → Option Value) : Prop where
  isinstance : mg "isinstance" = none
  str : mg "str" = none
  int : mg "int" = none
  bool : mg "bool" = none
  list : mg "list" = none
  sorted : mg "sorted" = none
theorem le8 {n : Nat} (h : n ≤ 1000) : n ≤ sizeLine := Gen.small h
abbrev dfE (o : Obj) (E : List Ent) : T := .df o (ksE E) (vsE E)
abbrev pH (i : Int) (x : Str) : Int × Str → Bool := fun k => decide (k = (i, x))
abbrev pK (S : Int) (x : Str) : Int × Str → Bool := fun k => ib S k.1.toNat && decide (k.2 = x)
def gHas (ts : List T) (q : Rt → Prop) : Prop := ∃ (x : Int) (k : Nat), ts = [.int x, .int (k : Int)] ∧ q (.vw (.bl (ib x k)))
def gHolds (ts : List T) (q : Rt → Prop) : Prop := ∃ (E F : List Ent) (i : Int) (x : Str), ts = [.tup [.lst (E.map tri), .lst (F.map tri)], .int i, .str x] ∧ q (.vw (.int (orE (pH i x) E)))
def gKeeps (ts : List T) (q : Rt → Prop) : Prop := ∃ (E F : List Ent) (S : Int) (x : Str), ts = [.tup [.lst (E.map tri), .lst (F.map tri)], .int S, .str x] ∧ (∀ e ∈ F, 0 ≤ e.1.1) ∧ q (.vw (.int (orE (pK S x) F)))
def gSameI (ts : List T) (q : Rt → Prop) : Prop := ∃ i : Int, ts = [.int i, .int i] ∧ q (.vw (.bl true))
def gFilled (ts : List T) (q : Rt → Prop) : Prop := ∃ (ns : List Int) (ys : List Str), ts = [.lst (ns.map .int), .lst (ys.map .str)] ∧ ns.length ≤ 63 ∧ ys.length = 4 ∧ (∀ y ∈ ys, y.length ≤ 100) ∧ ∀ E1 E2 o1 o2, Good E1 63 → Good E2 63 → q (.vw (.tup [dfE o1 E1, dfE o2 E2]))
def gTold (ts : List T) (q : Rt → Prop) : Prop := ∃ (E : List Ent) (o : Obj), ts = [dfE o E] ∧ Good E 63 ∧ ∀ F : List Ent, F.Perm E → q (.fr (.lst (F.map tri)))
def gKept (ts : List T) (q : Rt → Prop) : Prop := ∃ (E : List Ent) (o : Obj) (S : Int) (x : Str), ts = [dfE o E, .int S, .str x] ∧ Good E 63 ∧ q (.vw (.int (orE (pK S x) E)))
def gLaw (ts : List T) (q : Rt → Prop) : Prop := ∃ ns : List Int, ts = [.lst (ns.map .int)] ∧ ns.length ≤ 63 ∧ q (.vw (.bl true))
theorem words_len (c : Int) : ∀ y ∈ wordsL c 4, y.length ≤ 100 := fun y hy => by
  have h := words_name y hy
  unfold K01.nameS at h
  simp only [Bool.and_eq_true, decide_eq_true_eq] at h
  omega
theorem b_sorted : bootBuiltins "sorted" = some (.builtin "sorted") := by decide +kernel
theorem cut_map {α : Type} (f : α → T) (ns : List α) (lo hi : Option Int) : ∃ ms : List α, cutT (ns.map f) lo hi = ms.map f ∧ ms.length ≤ ns.length := by
  unfold cutT
  rw [List.length_map, ← List.map_drop, ← List.map_take]
  refine ⟨_, rfl, ?_⟩
  rw [List.length_take, List.length_drop]
  omega
theorem has_eq (x : Int) (k : Nat) : decide (Builtin.bitAnd (x / 2 ^ ((k : Int)).toNat) 1 = 1) = ib x k := by
  rw [Int.toNat_natCast, at_and_one]
  cases ib x k <;> decide
section
variable {P : Program} {w : World} {K : PySem.W.Frag} {mg : Str → Option Value} {base : Heap}
abbrev n_has : List Str := ["rows", "row"]
theorem sc_has : FnScope n_has ["rows", "row"] (defScope s_has) := ⟨rfl, rfl, rfl, by decide +kernel, rfl, by decide +kernel, by decide +kernel⟩
theorem ok_has {f : Addr} {fd : FuncData} (D : Df K mg "has" s_has ["rows", "row"] f fd) : Cal P w K mg base "has" ["rows", "row"] 1 (spP K 2 gHas) := by
  refine D.cal (fnP D.F sc_has rfl fun cdv A outer s H E Ox hr ts q hG => ?_)
  have nd := sc_has.nd
  have hu := Room.u101 hr
  have np : ∀ {i : Nat}, NotPar ⟨H, [], Ox⟩ i := np0
  have npf : ∀ {is : List Nat}, ∀ i ∈ is, NotPar ⟨H, [], Ox⟩ i := fun i _ => np0
  refine ⟨_, (vss_one (vs_ret (VP.vx (vp_eq hu (VP.vr (vp_band (VP.vr (vp_shr (vr_var 0) (vr_var 1))) (VP.vr vp_int))) (VP.vr vp_int))))), fun _ => ?_⟩
  obtain ⟨x, k, rfl, hq⟩ := hG
  refine ⟨by show (0 : Int) ≤ (k : Int); omega, ?_⟩
  show q (.vw (.bl (decide (Builtin.bitAnd (x / 2 ^ ((k : Int)).toNat) 1 = 1))))
  rw [has_eq]
  exact hq
abbrev n_holds : List Str := ["table", "home", "name", "told", "part"]
theorem sc_holds : FnScope n_holds ["table", "home", "name"] (defScope s_holds) := ⟨rfl, rfl, rfl, by decide +kernel, rfl, by decide +kernel, by decide +kernel⟩
theorem ok_holds {f : Addr} {fd : FuncData} (D : Df K mg "holds" s_holds ["table", "home", "name"] f fd) : Cal P w K mg base "holds" ["table", "home", "name"] 1 (spP K 3 gHolds) := by
  refine D.cal (fnP D.F sc_holds rfl fun cdv A outer s H E Ox hr ts q hG => ?_)
  have nd := sc_holds.nd
  have hu := Room.u101 hr
  have np : ∀ {i : Nat}, NotPar ⟨H, [], Ox⟩ i := np0
  have npf : ∀ {is : List Nat}, ∀ i ∈ is, NotPar ⟨H, [], Ox⟩ i := fun i _ => np0
  refine ⟨_, (vss_cons (vs_set (i := 3) nd rfl (Or.inl rfl) (VP.vx vp_int) np)
      (vss_cons (vs_for PassesOwn.never rfl (vi_seq (VP.ve (vp_ix (vr_var 0) (VP.vr vp_int)))) (vg_name (i := 4) nd rfl (Or.inl rfl) np)
        (vss_one (vs_if (VW.vc (vw_and (vc_eq hu (VP.vr (vp_ix (vr_var 4) (VP.vr vp_int))) (vr_var 1)) (vw_and1 (vc_eq hu (VP.vr (vp_ix (vr_var 4) (VP.vr vp_int))) (vr_var 2)))))
          (vss_one (vs_aug (i := 3) nd rfl (Or.inl rfl) (VP.vr (vp_ix (vr_var 4) (VP.vr vp_int))) iop_or opT_Bor np))
          vss_nil)))
      (vss_one (vs_ret (VP.vx (VE.vp (ve_var 3))))))), fun _ => ?_⟩
  obtain ⟨E, F, i, x, rfl, hq⟩ := hG
  refine ⟨_, atI_nat (j := 0) rfl, ?_⟩
  show LoopW (E.map tri) _ _ _ _
  refine loop_map (fun n ρ => ∃ v b4, ρ = [some (.tup [.lst (E.map tri), .lst (F.map tri)], false), some (.int i, false), some (.str x, false), some (.int v, false), b4] ∧ v = orE (pH i x) (E.take n)) ⟨_, none, rfl, rfl⟩ ?_ ?_
  · rintro n e ρ he ⟨_, b4, rfl, rfl⟩
    have hs := or_take (p := pH i x) he
    refine ⟨_, atI_nat (j := 0) rfl, iteD (fun z1 => ⟨_, atI_nat (j := 1) rfl, iteD (fun z2 => ?_) (fun z2 => ?_)⟩) (fun z1 => ?_)⟩
    · have hp : pH i x e.1 = true := decide_eq_true (Prod.ext z1 z2)
      refine ⟨_, atI_nat (j := 2) rfl, _, _, rfl, ?_⟩
      rw [hs]; unfold stE; rw [if_pos hp]
    · have hp : ¬ pH i x e.1 = true := fun z => z2 (by rw [of_decide_eq_true z])
      refine ⟨_, _, rfl, ?_⟩
      rw [hs]; unfold stE; rw [if_neg hp]
    · have hp : ¬ pH i x e.1 = true := fun z => z1 (by rw [of_decide_eq_true z])
      refine ⟨_, _, rfl, ?_⟩
      rw [hs]; unfold stE; rw [if_neg hp]
  · rintro ρ ⟨_, b4, rfl, rfl⟩
    rw [List.take_length]
    exact hq
abbrev n_keeps : List Str := ["table", "rows", "kind", "told", "part"]
theorem sc_keeps : FnScope n_keeps ["table", "rows", "kind"] (defScope s_keeps) := ⟨rfl, rfl, rfl, by decide +kernel, rfl, by decide +kernel, by decide +kernel⟩
theorem ok_keeps {f : Addr} {fd : FuncData} (D : Df K mg "keeps" s_keeps ["table", "rows", "kind"] f fd) (C_has : Cal P w K mg base "has" ["rows", "row"] 1 (spP K 2 gHas)) : Cal P w K mg base "keeps" ["table", "rows", "kind"] 2 (spP K 3 gKeeps) := by
  obtain ⟨f_has, fd_has, m_has, k_has, b_has, F_has⟩ := C_has
  refine D.cal (fnP D.F sc_keeps rfl fun cdv A outer s H E Ox hr ts q hG => ?_)
  have nd := sc_keeps.nd
  have hu := Room.u101 hr
  have np : ∀ {i : Nat}, NotPar ⟨H, [], Ox⟩ i := np0
  have npf : ∀ {is : List Nat}, ∀ i ∈ is, NotPar ⟨H, [], Ox⟩ i := fun i _ => np0
  refine ⟨_, (vss_cons (vs_set (i := 3) nd rfl (Or.inl rfl) (VP.vx vp_int) np)
      (vss_cons (vs_for PassesOwn.never rfl (vi_seq (VP.ve (vp_ix (vr_var 0) (VP.vr vp_int)))) (vg_name (i := 4) nd rfl (Or.inl rfl) np)
        (vss_one (vs_if (VW.vc (vw_and (vc_val (vp_call F_has (hr.mono (by decide)) (by rfl) m_has k_has b_has (va_cons (ve_var 1) (va_cons (VP.ve (vp_ix (vr_var 4) (VP.vr vp_int))) va_nil)))) (vw_and1 (vc_eq hu (VP.vr (vp_ix (vr_var 4) (VP.vr vp_int))) (vr_var 2)))))
          (vss_one (vs_aug (i := 3) nd rfl (Or.inl rfl) (VP.vr (vp_ix (vr_var 4) (VP.vr vp_int))) iop_or opT_Bor np))
          vss_nil)))
      (vss_one (vs_ret (VP.vx (VE.vp (ve_var 3))))))), fun _ => ?_⟩
  obtain ⟨E, F, S, x, rfl, hp0, hq⟩ := hG
  refine ⟨_, atI_nat (j := 1) rfl, ?_⟩
  show LoopW (F.map tri) _ _ _ _
  refine loop_map (fun n ρ => ∃ v b4, ρ = [some (.tup [.lst (E.map tri), .lst (F.map tri)], false), some (.int S, false), some (.str x, false), some (.int v, false), b4] ∧ v = orE (pK S x) (F.take n)) ⟨_, none, rfl, rfl⟩ ?_ ?_
  · rintro n e ρ he ⟨_, b4, rfl, rfl⟩
    have hs := or_take (p := pK S x) he
    have h0 := hp0 e (List.mem_of_getElem? he)
    refine ⟨_, atI_nat (j := 0) rfl, rfl, S, e.1.1.toNat, by rw [Int.toNat_of_nonneg h0]; rfl, ite2 (fun z1 => ⟨_, atI_nat (j := 1) rfl, iteD (fun z2 => ?_) (fun z2 => ?_)⟩) (fun z1 => ?_)⟩
    · have hp : pK S x e.1 = true := by show (_ && _) = true; rw [z1, decide_eq_true z2]; rfl
      refine ⟨_, atI_nat (j := 2) rfl, _, _, rfl, ?_⟩
      rw [hs]; unfold stE; rw [if_pos hp]
    · have hp : ¬ pK S x e.1 = true := fun z => z2 (by rw [Bool.and_eq_true] at z; exact of_decide_eq_true z.2)
      refine ⟨_, _, rfl, ?_⟩
      rw [hs]; unfold stE; rw [if_neg hp]
    · have hp : ¬ pK S x e.1 = true := fun z => z1 (by rw [Bool.and_eq_true] at z; exact z.1)
      refine ⟨_, _, rfl, ?_⟩
      rw [hs]; unfold stE; rw [if_neg hp]
  · rintro ρ ⟨_, b4, rfl, rfl⟩
    rw [List.take_length]
    exact hq
abbrev n_same : List Str := ["_law_found", "_law_due", "_law_one", "_law_other"]
theorem sc_same : FnScope n_same ["_law_found", "_law_due"] (defScope s_same) := ⟨rfl, rfl, rfl, by decide +kernel, rfl, by decide +kernel, by decide +kernel⟩
theorem ok_sameJ {f : Addr} {fd : FuncData} (D : Df K mg "_law_same" s_same ["_law_found", "_law_due"] f fd) (M : MgL mg) : Cal P w K mg base "_law_same" ["_law_found", "_law_due"] 2 (spP K 2 gSameI) := by
  refine D.cal (fnP D.F sc_same rfl fun cdv A outer s H E Ox hr ts q hG => ?_)
  have nd := sc_same.nd
  have hu := Room.u101 hr
  have np : ∀ {i : Nat}, NotPar ⟨H, [], Ox⟩ i := np0
  have npf : ∀ {is : List Nat}, ∀ i ∈ is, NotPar ⟨H, [], Ox⟩ i := fun i _ => np0
  refine ⟨_, (vss_cons (vs_if (vc_is (vr_var 1) (VP.vr vp_non))
        (vss_one (vs_ret (VP.vx (vp_is (vr_var 0) (VP.vr vp_non)))))
        vss_nil)
      (vss_cons (vs_if (vc_val (vp_inst inst_str (by rfl) M.isinstance (by rfl) M.str b_str (vr_var 1)))
        (vss_one (vs_ret (VP.vx (vp_and (vp_inst inst_str (by rfl) M.isinstance (by rfl) M.str b_str (vr_var 0)) (vp_one (vp_eq hu (vr_var 0) (vr_var 1)))))))
        vss_nil)
      (vss_cons (vs_if (vc_val (vp_inst inst_int (by rfl) M.isinstance (by rfl) M.int b_int (vr_var 1)))
        (vss_one (vs_ret (VP.vx (vp_and (vp_inst inst_int (by rfl) M.isinstance (by rfl) M.int b_int (vr_var 0)) (vp_and (vp_not (vp_inst inst_bool (by rfl) M.isinstance (by rfl) M.bool b_bool (vr_var 0))) (vp_one (vp_eq hu (vr_var 0) (vr_var 1))))))))
        vss_nil)
      vss_never))), fun _ => ?_⟩
  obtain ⟨i, rfl, hq⟩ := hG
  refine ⟨rfl, rfl, rfl, rfl, ?_⟩
  show q (.vw (.bl (decide (i = i))))
  rw [decide_eq_true rfl]
  exact hq
abbrev n_filled : List Str := ["_law_script", "_law_words_here", "_law_names", "_law_cells", "_law_cell", "_law_number", "_law_some"]
theorem sc_filled : FnScope n_filled ["_law_script", "_law_words_here"] (defScope s_filled) := ⟨rfl, rfl, rfl, by decide +kernel, rfl, by decide +kernel, by decide +kernel⟩
theorem ok_filled {f : Addr} {fd : FuncData} (D : Df K mg "_law_filled" s_filled ["_law_script", "_law_words_here"] f fd) : Cal P w K mg base "_law_filled" ["_law_script", "_law_words_here"] 1 (spP K 2 gFilled) := by
  refine D.cal (fnP D.F sc_filled rfl fun cdv A outer s H E Ox hr ts q hG => ?_)
  have nd := sc_filled.nd
  have hu := Room.u101 hr
  have np : ∀ {i : Nat}, NotPar ⟨H, [], Ox⟩ i := np0
  have npf : ∀ {is : List Nat}, ∀ i ∈ is, NotPar ⟨H, [], Ox⟩ i := fun i _ => np0
  have hu1 := u1_of hu
  refine ⟨_, (vss_cons (vs_own (i := 2) nd rfl (Or.inl rfl) (VP.vx vp_dnewT) np)
      (vss_cons (vs_own (i := 3) nd rfl (Or.inl rfl) (VP.vx vp_dnewT) np)
      (vss_cons (vs_for PassesOwn.never rfl (vi_seq (VP.ve (vp_slice (vr_var 0) (vo_some (VP.vr vp_int)) vo_none))) (vg_name (i := 4) nd rfl (Or.inl rfl) np)
        (vss_cons (vs_set (i := 5) nd rfl (Or.inl rfl) (VP.vx (vp_fdiv (vr_var 4) (VP.vr vp_int))) np)
        (vss_cons (vs_set (i := 6) nd rfl (Or.inl rfl) (VP.vx (vp_add (VP.vr vp_int) (VP.vr (vp_mod (VP.vr (vp_mul (vr_var 5) (VP.vr vp_int))) (VP.vr (vp_sub (VP.vr (vp_pow (VP.vr vp_int) (VP.vr vp_int))) (VP.vr vp_int))))))) np)
        (vss_one (vs_if (vc_eq hu (VP.vr (vp_mod (vr_var 4) (VP.vr vp_int))) (VP.vr vp_int))
          (vss_one (vs_dputT 2 hu1 (ve_var 6) (va_cons (VP.ve (vp_mod (VP.vr (vp_fdiv (vr_var 4) (VP.vr vp_int))) (VP.vr vp_int))) (va_cons (VP.ve (vp_ix (vr_var 1) (VP.vr (vp_mod (vr_var 5) (VP.vr vp_int))))) va_nil))))
          (vss_one (vs_dputT 3 hu1 (ve_var 6) (va_cons (VP.ve (vp_mod (VP.vr (vp_fdiv (vr_var 4) (VP.vr vp_int))) (VP.vr vp_int))) (va_cons (VP.ve (vp_ix (VP.vr (vp_lst (va_cons (VP.ve vp_str) (va_cons (VP.ve (vp_add (VP.vr vp_str) (VP.vr (vp_ix (vr_var 1) (VP.vr vp_int))))) (va_cons (VP.ve (vp_add (VP.vr vp_str) (VP.vr (vp_ix (vr_var 1) (VP.vr vp_int))))) va_nil))))) (VP.vr (vp_mod (vr_var 5) (VP.vr vp_int))))) va_nil)))))))))
      (vss_ice 2 np (vss_ice 3 np (vss_one (vs_ret (VP.vx (vp_tup (va_cons (ve_var 2) (va_cons (ve_var 3) va_nil))))))))))), fun _ => ?_⟩
  obtain ⟨ns, ys, rfl, h63, hy4, hyl, hq⟩ := hG
  obtain ⟨ms, ems, hms⟩ := cut_map T.int ns (some 2) none
  show LoopW (cutT (ns.map T.int) (some 2) none) _ _ _ _
  rw [ems]
  refine loop_map (fun n ρ => ∃ E1 E2 k1 v1 k2 v2 b4 b5 b6, ρ = [some (.lst (ns.map .int), false), some (.lst (ys.map .str), false), some (.dt k1 v1, true), some (.dt k2 v2, true), b4, b5, b6] ∧ k1 = ksE E1 ∧ v1 = vsE E1 ∧ k2 = ksE E2 ∧ v2 = vsE E2 ∧ Good E1 n ∧ Good E2 n) ⟨[], [], _, _, _, _, none, none, none, rfl, rfl, rfl, rfl, rfl, good_nil, good_nil⟩ ?_ ?_
  · rintro n c ρ hc ⟨E1, E2, _, _, _, _, b4, b5, b6, rfl, rfl, rfl, rfl, rfl, g1, g2⟩
    have hn : n < 63 := by have := (List.getElem?_eq_some_iff.mp hc).1; omega
    have l1 : (vsE E1).length < 16777216 := by unfold vsE; rw [List.length_map]; have := g1.len; omega
    have l2 : (vsE E2).length < 16777216 := by unfold vsE; rw [List.length_map]; have := g2.len; omega
    have h60 : 0 ≤ c / 2 % 60 := Int.emod_nonneg _ (by decide)
    refine ⟨⟨by decide, by decide⟩, .inr ⟨by decide, by decide⟩, ⟨by decide, by decide, by decide⟩, (by show (0 : Int) < 2 ^ (60 : Int).toNat - 1; decide), (by show (0 : Int) < 2; decide), iteD (fun _ => ?_) (fun _ => ?_)⟩
    · obtain ⟨j, hj, ej⟩ : ∃ j : Nat, j < 4 ∧ c / 120 % 4 = (j : Int) := ⟨(c / 120 % 4).toNat, by omega, by omega⟩
      have hy : (ys.map T.str)[j]? = some (.str (ys[j]'(by omega))) := by rw [List.getElem?_map, List.getElem?_eq_getElem (by omega)]; rfl
      refine ⟨⟨by decide, by decide⟩, (by show (0 : Int) < 60; decide), (by show (0 : Int) < 4; decide), T.str (ys[j]'(by omega)), (by show atI _ (c / 120 % 4) = _; rw [ej]; exact atI_nat hy), ⟨le8 (by simp), l1⟩, ?_⟩
      refine ⟨putE E1 (c / 2 % 60, ys[j]'(by omega)) (1 + c / 120 * 864691128455135233 % (2 ^ (60 : Int).toNat - 1)), E2, _, _, _, _, _, _, _, rfl, ks_put E1 (c / 2 % 60, ys[j]'(by omega)) _, vs_put E1 (c / 2 % 60, ys[j]'(by omega)) _, rfl, rfl, g1.put h60, g2.mono (Nat.le_succ _)⟩
    · have y0 : (ys.map T.str)[0]? = some (.str (ys[0]'(by omega))) := by rw [List.getElem?_map, List.getElem?_eq_getElem (by omega)]; rfl
      have y1 : (ys.map T.str)[1]? = some (.str (ys[1]'(by omega))) := by rw [List.getElem?_map, List.getElem?_eq_getElem (by omega)]; rfl
      have z0 := hyl _ (List.getElem_mem (show 0 < ys.length by omega))
      have z1 := hyl _ (List.getElem_mem (show 1 < ys.length by omega))
      have dot : (Str.ofString ".").length = 1 := by decide
      have hs0 : (Str.ofString ".").length + (ys[0]'(by omega)).length ≤ sizeLine := le8 (by omega)
      have hs1 : (Str.ofString ".").length + (ys[1]'(by omega)).length ≤ sizeLine := le8 (by omega)
      obtain ⟨j, hj, ej⟩ : ∃ j : Nat, j < 3 ∧ c / 120 % 3 = (j : Int) := ⟨(c / 120 % 3).toNat, by omega, by omega⟩
      obtain ⟨z, hz⟩ : ∃ z : Str, ([T.str (Str.ofString "#"), .str (Str.ofString "." ++ ys[0]'(by omega)), .str (Str.ofString "." ++ ys[1]'(by omega))])[j]? = some (.str z) := by
        have : j = 0 ∨ j = 1 ∨ j = 2 := by omega
        rcases this with rfl | rfl | rfl
        · exact ⟨_, rfl⟩
        · exact ⟨_, rfl⟩
        · exact ⟨_, rfl⟩
      refine ⟨⟨by decide, by decide⟩, (by show (0 : Int) < 60; decide), _, atI_nat y0, hs0, _, atI_nat y1, hs1, le8 (by simp), (by show (0 : Int) < 3; decide), T.str z, (by show atI _ (c / 120 % 3) = _; rw [ej]; exact atI_nat hz), ⟨le8 (by simp), l2⟩, ?_⟩
      refine ⟨E1, putE E2 (c / 2 % 60, z) (1 + c / 120 * 864691128455135233 % (2 ^ (60 : Int).toNat - 1)), _, _, _, _, _, _, _, rfl, rfl, rfl, ks_put E2 (c / 2 % 60, z) _, vs_put E2 (c / 2 % 60, z) _, g1.mono (Nat.le_succ _), g2.put h60⟩
  · rintro ρ ⟨E1, E2, _, _, _, _, b4, b5, b6, rfl, rfl, rfl, rfl, rfl, g1, g2⟩
    intro o1 o2
    exact ⟨le8 (by simp), hq E1 E2 o1 o2 (g1.mono (by omega)) (g2.mono (by omega))⟩
abbrev n_told : List Str := ["_law_some"]
theorem sc_told : FnScope n_told ["_law_some"] (defScope s_told) := ⟨rfl, rfl, rfl, by decide +kernel, rfl, by decide +kernel, by decide +kernel⟩
theorem nd_told_c0 : (n_told ++ (["_law_key"] : List Str)).Nodup := by decide +kernel
theorem ok_told {f : Addr} {fd : FuncData} (D : Df K mg "_law_told" s_told ["_law_some"] f fd) (M : MgL mg) : Cal P w K mg base "_law_told" ["_law_some"] 1 (spP K 1 gTold) := by
  refine D.cal (fnP D.F sc_told rfl fun cdv A outer s H E Ox hr ts q hG => ?_)
  have nd := sc_told.nd
  have hu := Room.u101 hr
  have np : ∀ {i : Nat}, NotPar ⟨H, [], Ox⟩ i := np0
  have npf : ∀ {is : List Nat}, ∀ i ∈ is, NotPar ⟨H, [], Ox⟩ i := fun i _ => np0
  have hu1 := u1_of hu
  refine ⟨_, (vss_one (vs_ret (VP.vx (vp_callB TS.call_sorted_tri TS.callT_sort3 (by rfl) M.sorted b_sorted (var_cons (VP.vr (vp_comp (ts := ["_law_key"]) rfl (by rfl) (vi_dictP (ve_var 0)) (fun _ _ _ _ _ _ => (vg_name (i := 1) nd_told_c0 rfl (Or.inl rfl) np)) (fun _ _ _ _ _ _ => vcs_nil) (fun _ _ _ _ _ _ => (VP.ve (vp_tup (va_cons (VP.ve (vp_ix (vr_unp (vr_var 1)) (VP.vr vp_int))) (va_cons (VP.ve (vp_ix (vr_unp (vr_var 1)) (VP.vr vp_int))) (va_cons (VP.ve (vp_dixK hu1 (vr_var 0) (vr_var 1))) va_nil)))))))) var_nil))))), fun _ => ?_⟩
  obtain ⟨E, o, rfl, g, hq⟩ := hG
  have hlen := g.len
  have ep : pinT o (ksE E) = E.zipIdx.map fun p => .pin (kAd o p.2) (ktT (kK p.1.1)) := by
    unfold pinT ksE
    rw [List.zipIdx_map, List.map_map]; rfl
  have eu : (E.zipIdx.map fun p => tri p.1) = E.map tri := by
    rw [show (fun p : Ent × Nat => tri p.1) = tri ∘ Prod.fst from rfl, ← List.map_map, List.zipIdx_map_fst]
  refine ⟨rfl, (by show (pinT o (ksE E)).length ≤ sizeLine; rw [pinT_len]; unfold ksE; rw [List.length_map]; exact le8 (by omega)), ?_⟩
  show wComp _ fYes _ _ (pinT o (ksE E)) _
  rw [ep]
  refine wComp_mapL (u := fun p => tri p.1) (fun p hp r hr => ?_) ?_
  · obtain ⟨e, i⟩ := p
    have hi : E[i]? = some e := List.mem_zipIdx_iff_getElem?.mp hp
    refine ⟨_, atI_nat (j := 0) rfl, _, atI_nat (j := 1) rfl, ⟨i, kK e.1, .int e.2, rfl, by unfold ksE; rw [List.getElem?_map, hi]; rfl, get_of g.nd (List.mem_of_getElem? hi), le8 (by simp), hr⟩⟩
  · show TS.pSort3 [.lst (E.zipIdx.map fun p => tri p.1)] _
    rw [eu]
    refine ⟨E.map tri, rfl, by rw [List.length_map]; omega, fun t ht => ?_, fun zs hz => ?_⟩
    · obtain ⟨e, _, rfl⟩ := List.mem_map.mp ht
      exact ⟨_, _, _, rfl⟩
    · obtain ⟨F, p, rfl⟩ := perm_map tri hz rfl
      exact hq F p
abbrev n_kept : List Str := ["_law_cells", "_law_rows", "_law_kind", "_law_total", "_law_row", "_law_other"]
theorem sc_kept : FnScope n_kept ["_law_cells", "_law_rows", "_law_kind"] (defScope s_kept) := ⟨rfl, rfl, rfl, by decide +kernel, rfl, by decide +kernel, by decide +kernel⟩
theorem ok_kept {f : Addr} {fd : FuncData} (D : Df K mg "_law_kept" s_kept ["_law_cells", "_law_rows", "_law_kind"] f fd) : Cal P w K mg base "_law_kept" ["_law_cells", "_law_rows", "_law_kind"] 1 (spP K 3 gKept) := by
  refine D.cal (fnP D.F sc_kept rfl fun cdv A outer s H E Ox hr ts q hG => ?_)
  have nd := sc_kept.nd
  have hu := Room.u101 hr
  have np : ∀ {i : Nat}, NotPar ⟨H, [], Ox⟩ i := np0
  have npf : ∀ {is : List Nat}, ∀ i ∈ is, NotPar ⟨H, [], Ox⟩ i := fun i _ => np0
  have hu1 := u1_of hu
  refine ⟨_, (vss_cons (vs_set (i := 3) nd rfl (Or.inl rfl) (VP.vx vp_int) np)
      (vss_cons (vs_for PassesOwn.never rfl (vi_dict (ve_var 0)) (vg_tup (n := 2) rfl (vgs_cons (vg_name (i := 4) nd rfl (Or.inl rfl) np) (vgs_cons (vg_name (i := 5) nd rfl (Or.inl rfl) np) vgs_nil)))
        (vss_one (vs_if (VW.vc (vw_and (vc_eq hu (vr_var 5) (vr_var 2)) (vw_and1 (vc_eq hu (VP.vr (vp_mod (VP.vr (vp_shr (vr_var 1) (vr_var 4))) (VP.vr vp_int))) (VP.vr vp_int)))))
          (vss_one (vs_set (i := 3) nd rfl (Or.inl rfl) (VP.vx (vp_bor (vr_var 3) (VP.vr (vp_dixT hu1 (vr_var 0) (va_cons (ve_var 4) (va_cons (ve_var 5) va_nil)))))) np))
          vss_nil)))
      (vss_one (vs_ret (VP.vx (VE.vp (ve_var 3))))))), fun _ => ?_⟩
  obtain ⟨E, o, S, x, rfl, g, hq⟩ := hG
  have ek : (ksE E).map ktT = E.map fun e => ktT (kK e.1) := by unfold ksE; rw [List.map_map]; rfl
  show LoopW ((ksE E).map ktT) _ _ _ _
  rw [ek]
  refine loop_map (fun n ρ => ∃ v b4 b5, ρ = [some (dfE o E, false), some (.int S, false), some (.str x, false), some (.int v, false), b4, b5] ∧ v = orE (pK S x) (E.take n)) ⟨_, none, none, rfl, rfl⟩ ?_ ?_
  · rintro n e ρ he ⟨_, b4, b5, rfl, rfl⟩
    have hs := or_take (p := pK S x) he
    have h0 := g.pos e (List.mem_of_getElem? he)
    refine ⟨rfl, rfl, iteD (fun z1 => ⟨h0, (by show (0 : Int) < 2; decide), iteD (fun z2 => ?_) (fun z2 => ?_)⟩) (fun z1 => ?_)⟩
    · have hp : pK S x e.1 = true := by show (_ && _) = true; rw [decide_eq_true z1, Bool.and_true]; exact decide_eq_true z2
      refine ⟨le8 (by simp), .int e.2, get_of g.nd (List.mem_of_getElem? he), _, _, _, rfl, ?_⟩
      rw [hs]; unfold stE; rw [if_pos hp]
    · have hp : ¬ pK S x e.1 = true := fun z => z2 (by rw [Bool.and_eq_true] at z; exact of_decide_eq_true z.1)
      refine ⟨_, _, _, rfl, ?_⟩
      rw [hs]; unfold stE; rw [if_neg hp]
    · have hp : ¬ pK S x e.1 = true := fun z => z1 (by rw [Bool.and_eq_true] at z; exact of_decide_eq_true z.2)
      refine ⟨_, _, _, rfl, ?_⟩
      rw [hs]; unfold stE; rw [if_neg hp]
  · rintro ρ ⟨_, b4, b5, rfl, rfl⟩
    rw [List.take_length]
    exact hq
theorem tri_plain (e : Ent) : plainT (tri e) = true := rfl
theorem lent_plain (E F : List Ent) : plainT (.tup [.lst (E.map tri), .lst (F.map tri)]) = true := by
  have h : ∀ G : List Ent, plainT (.lst (G.map tri)) = true := fun G => by simp only [plainT]; exact plains_map tri_plain G
  have a := h E
  have b := h F
  simp only [plainT, plainTs, Bool.and_eq_true] at a b ⊢
  exact ⟨a, b, trivial⟩
theorem lent_dep (E F : List Ent) : dep (.tup [.lst (E.map tri), .lst (F.map tri)]) ≤ 100 := by
  have h : ∀ G : List Ent, deps (G.map tri) ≤ 2 := fun G => deps_map (f := tri) (n := 2) (fun e => by simp [tri, dep, deps]) G
  have a := h E
  have b := h F
  simp only [dep, deps]
  omega
abbrev n_law : List Str := ["_law_script", "_law_words_here", "_law_names", "_law_cells", "_law_table", "_law_lent", "_law_homes", "_law_home", "_law_name", "_law_sets", "_law_rows", "_law_kind"]
theorem sc_law : FnScope n_law ["_law_script"] (defScope s_law) := ⟨rfl, rfl, rfl, by decide +kernel, rfl, by decide +kernel, by decide +kernel⟩
theorem nd_law_c0 : (n_law ++ (["_law_cell"] : List Str)).Nodup := by decide +kernel
theorem nd_law_c1 : ((["_law_script", "_law_words_here", "_law_names", "_law_cells", "_law_table", "_law_lent", "_law_homes", "#_law_home", "_law_name", "_law_sets", "_law_rows", "_law_kind"] : List Str) ++ (["_law_home"] : List Str)).Nodup := by decide +kernel
theorem nd_law_m0 : (["_law_script", "_law_words_here", "_law_names", "_law_cells", "_law_table", "_law_lent", "_law_homes", "#_law_home", "_law_name", "_law_sets", "_law_rows", "_law_kind"] : List Str).Nodup := by decide +kernel
theorem ok_law {f : Addr} {fd : FuncData} (D : Df K mg "law" s_law ["_law_script"] f fd) (M : MgL mg) (C_cell_at : Cal P w K mg base "_law_cell_at" ["_law_script", "_law_k"] 1 (spP K 2 GenV.gCell)) (C_words : Cal P w K mg base "_law_words" ["_law_cell", "_law_many"] 1 (spP K 2 GenV.gWords)) (C_filled : Cal P w K mg base "_law_filled" ["_law_script", "_law_words_here"] 1 (spP K 2 gFilled)) (C_told : Cal P w K mg base "_law_told" ["_law_some"] 1 (spP K 1 gTold)) (C_holds : Cal P w K mg base "holds" ["table", "home", "name"] 1 (spP K 3 gHolds)) (C_keeps : Cal P w K mg base "keeps" ["table", "rows", "kind"] 2 (spP K 3 gKeeps)) (C_kept : Cal P w K mg base "_law_kept" ["_law_cells", "_law_rows", "_law_kind"] 1 (spP K 3 gKept)) (C_same : Cal P w K mg base "_law_same" ["_law_found", "_law_due"] 2 (spP K 2 gSameI)) : FnOk P w K mg base CX0 3 f fd ["_law_script"] (spP K 1 gLaw) := by
  obtain ⟨f_cell_at, fd_cell_at, m_cell_at, k_cell_at, b_cell_at, F_cell_at⟩ := C_cell_at
  obtain ⟨f_words, fd_words, m_words, k_words, b_words, F_words⟩ := C_words
  obtain ⟨f_filled, fd_filled, m_filled, k_filled, b_filled, F_filled⟩ := C_filled
  obtain ⟨f_told, fd_told, m_told, k_told, b_told, F_told⟩ := C_told
  obtain ⟨f_holds, fd_holds, m_holds, k_holds, b_holds, F_holds⟩ := C_holds
  obtain ⟨f_keeps, fd_keeps, m_keeps, k_keeps, b_keeps, F_keeps⟩ := C_keeps
  obtain ⟨f_kept, fd_kept, m_kept, k_kept, b_kept, F_kept⟩ := C_kept
  obtain ⟨f_same, fd_same, m_same, k_same, b_same, F_same⟩ := C_same
  refine fnP D.F sc_law rfl fun cdv A outer s H E Ox hr ts q hG => ?_
  have nd := sc_law.nd
  have hu := Room.u101 hr
  have np : ∀ {i : Nat}, NotPar ⟨H, [], Ox⟩ i := np0
  have npf : ∀ {is : List Nat}, ∀ i ∈ is, NotPar ⟨H, [], Ox⟩ i := fun i _ => np0
  have hu1 := u1_of hu
  refine ⟨_, (vss_cons (vs_set (i := 1) nd rfl (Or.inl rfl) (VP.vx (vp_call F_words (hr.mono (by decide)) (by rfl) m_words k_words b_words (va_cons (VP.ve (vp_call F_cell_at (hr.mono (by decide)) (by rfl) m_cell_at k_cell_at b_cell_at (va_cons (ve_var 0) (va_cons (VP.ve vp_int) va_nil)))) (va_cons (VP.ve vp_int) va_nil)))) np)
      (vss_cons (vs_asg (VP.ve (vp_call F_filled (hr.mono (by decide)) (by rfl) m_filled k_filled b_filled (va_cons (ve_var 0) (va_cons (ve_var 1) va_nil)))) (vg_tup (n := 2) rfl (vgs_cons (vg_name (i := 2) nd rfl (Or.inl rfl) np) (vgs_cons (vg_name (i := 3) nd rfl (Or.inl rfl) np) vgs_nil))))
      (vss_cons (vs_set (i := 4) nd rfl (Or.inl rfl) (VP.vx (vp_tup (va_cons (VP.ve (vp_call F_told (hr.mono (by decide)) (by rfl) m_told k_told b_told (va_cons (ve_var 2) va_nil))) (va_cons (VP.ve (vp_call F_told (hr.mono (by decide)) (by rfl) m_told k_told b_told (va_cons (ve_var 3) va_nil))) va_nil)))) np)
      (vss_cons (vs_set (i := 5) nd rfl (Or.inl rfl) (VP.vx (vp_tup (va_cons (VP.ve (vp_callTy call_list_of callT_list (by rfl) M.list b_list (var_cons (VP.vr (vp_ix (vr_var 4) (VP.vr vp_int))) var_nil))) (va_cons (VP.ve (vp_callTy call_list_of callT_list (by rfl) M.list b_list (var_cons (VP.vr (vp_ix (vr_var 4) (VP.vr vp_int))) var_nil))) va_nil)))) np)
      (vss_cons (vs_set (i := 6) nd rfl (Or.inl rfl) (VP.vx (vp_add (VP.vr (vp_comp (ts := ["_law_cell"]) rfl (by rfl) (vi_seq (VP.ve (vp_slice (vr_var 0) (vo_some (VP.vr vp_int)) (vo_some (VP.vr vp_int))))) (fun _ _ _ _ _ _ => (vg_name (i := 12) nd_law_c0 rfl (Or.inl rfl) np)) (fun _ _ _ _ _ _ => vcs_nil) (fun _ _ _ _ _ _ => (VP.ve (vp_mod (VP.vr (vp_fdiv (vr_var 12) (VP.vr vp_int))) (VP.vr vp_int)))))) (VP.vr (vp_lst (va_cons (VP.ve (vp_mod (VP.vr (vp_call F_cell_at (hr.mono (by decide)) (by rfl) m_cell_at k_cell_at b_cell_at (va_cons (ve_var 0) (va_cons (VP.ve vp_int) va_nil)))) (VP.vr vp_int))) va_nil))))) np)
      (vss_cons (vs_for PassesOwn.never rfl (vi_seq (ve_var 6)) (vg_name (i := 7) nd rfl (Or.inl rfl) np)
        (vss_one (vs_for PassesOwn.never rfl (vi_seq (ve_var 1)) (vg_name (i := 8) nd rfl (Or.inl rfl) np)
          (vss_one (vs_if (vc_not (vc_val (vp_call F_same (hr.mono (by decide)) (by rfl) m_same k_same b_same (va_cons (VP.ve (vp_call F_holds (hr.mono (by decide)) (by rfl) m_holds k_holds b_holds (va_cons (ve_var 5) (va_cons (ve_var 7) (va_cons (ve_var 8) va_nil))))) (va_cons (VP.ve (vp_dgT hu1 (vr_var 2) (va_cons (ve_var 7) (va_cons (ve_var 8) va_nil)) (VP.ve vp_int) ⟨rfl, rfl, rfl, rfl⟩)) va_nil)))))
            (vss_one (vs_ret (VP.vx vp_bl)))
            vss_nil)))))
      (vss_cons (vs_mask 7 "#_law_home" np (vs_set (i := 9) nd_law_m0 rfl (Or.inl rfl) (VP.vx (vp_add (VP.vr (vp_lst (va_cons (VP.ve vp_int) (va_cons (VP.ve (vp_sub (VP.vr (vp_pow (VP.vr vp_int) (VP.vr vp_int))) (VP.vr vp_int))) (va_cons (VP.ve (vp_mod (VP.vr (vp_mul (VP.vr (vp_call F_cell_at (hr.mono (by decide)) (by rfl) m_cell_at k_cell_at b_cell_at (va_cons (ve_var 0) (va_cons (VP.ve vp_int) va_nil)))) (VP.vr vp_int))) (VP.vr (vp_pow (VP.vr vp_int) (VP.vr vp_int))))) va_nil))))) (VP.vr (vp_comp (ts := ["_law_home"]) rfl (by rfl) (vi_seq (ve_var 6)) (fun _ _ _ _ _ _ => (vg_name (i := 12) nd_law_c1 rfl (Or.inl rfl) np)) (fun _ _ _ _ _ _ => vcs_nil) (fun _ _ _ _ _ _ => (VP.ve (vp_shl (VP.vr vp_int) (vr_var 12)))))))) np))
      (vss_cons (vs_for PassesOwn.never rfl (vi_seq (ve_var 9)) (vg_name (i := 10) nd rfl (Or.inl rfl) np)
        (vss_one (vs_for PassesOwn.never rfl (vi_seq (VP.ve (vp_lst (va_cons (VP.ve vp_str) (va_cons (VP.ve (vp_add (VP.vr vp_str) (VP.vr (vp_ix (vr_var 1) (VP.vr vp_int))))) (va_cons (VP.ve (vp_add (VP.vr vp_str) (VP.vr (vp_ix (vr_var 1) (VP.vr vp_int))))) (va_cons (VP.ve (vp_add (VP.vr vp_str) (VP.vr (vp_ix (vr_var 1) (VP.vr vp_int))))) va_nil))))))) (vg_name (i := 11) nd rfl (Or.inl rfl) np)
          (vss_one (vs_if (vc_not (vc_val (vp_call F_same (hr.mono (by decide)) (by rfl) m_same k_same b_same (va_cons (VP.ve (vp_call F_keeps (hr.mono (by decide)) (by rfl) m_keeps k_keeps b_keeps (va_cons (ve_var 5) (va_cons (ve_var 10) (va_cons (ve_var 11) va_nil))))) (va_cons (VP.ve (vp_call F_kept (hr.mono (by decide)) (by rfl) m_kept k_kept b_kept (va_cons (ve_var 3) (va_cons (ve_var 10) (va_cons (ve_var 11) va_nil))))) va_nil)))))
            (vss_one (vs_ret (VP.vx vp_bl)))
            vss_nil)))))
      (vss_one (vs_ret (VP.vx (vp_eq hu (vr_var 5) (vr_var 4))))))))))))), fun _ => ?main⟩
  obtain ⟨ns, rfl, h63, hq⟩ := hG
  have hy4 : (wordsL (ns.getD 0 0) 4).length = 4 := wordsL_len _ _
  have hyl : ∀ y ∈ wordsL (ns.getD 0 0) 4, y.length ≤ 100 := words_len _
  refine ⟨rfl, ns, 0, rfl, rfl, _, 4, rfl, by decide, by decide, ?_⟩
  generalize wordsL (ns.getD 0 0) 4 = ys at hy4 hyl ⊢
  refine ⟨rfl, ns, ys, rfl, h63, hy4, hyl, fun E1 E2 o1 o2 g1 g2 => ?_⟩
  refine ⟨rfl, rfl, ?_⟩
  refine ⟨rfl, E1, o1, rfl, g1, fun F1 p1 => ⟨rfl, E2, o2, rfl, g2, fun F2 p2 => ⟨le8 (by simp), ?_⟩⟩⟩
  have pos2 : ∀ e ∈ F2, 0 ≤ e.1.1 := fun e he => g2.pos e (p2.mem_iff.mp he)
  have len1 : F1.length ≤ 63 := by rw [p1.length_eq]; exact g1.len
  have len2 : F2.length ≤ 63 := by rw [p2.length_eq]; exact g2.len
  refine ⟨_, atI_nat (j := 0) rfl, _, atI_nat (j := 1) rfl, le8 (by simp), ?_⟩
  obtain ⟨ms, ems, hms⟩ := cut_map T.int ns (some 2) (some 12)
  refine ⟨rfl, ?_⟩
  show (cutT (ns.map T.int) (some 2) (some 12)).length ≤ sizeLine ∧ wComp _ fYes _ _ (cutT (ns.map T.int) (some 2) (some 12)) _
  rw [ems]
  refine ⟨by rw [List.length_map]; exact le8 (by omega), wComp_mapL (u := fun c : Int => .int (c / 2 % 60)) (fun c _ r hr => ⟨⟨by decide, by decide⟩, (by show (0 : Int) < 60; decide), hr⟩) ?_⟩
  refine ⟨rfl, ns, 1, rfl, (by show (0 : Int) < 60; decide), le8 (by simp), (by show (ms.map _).length + 1 ≤ sizeLine; rw [List.length_map]; exact le8 (by omega)), ?_⟩
  obtain ⟨hs, ehs, hsl, hs0⟩ : ∃ hs : List Int, (ms.map fun c : Int => T.int (c / 2 % 60)) ++ [.int (ns.getD 1 0 % 60)] = hs.map .int ∧ hs.length ≤ 100 ∧ ∀ h ∈ hs, 0 ≤ h ∧ h ≤ 1000 := by
    refine ⟨ms.map (fun c => c / 2 % 60) ++ [ns.getD 1 0 % 60], ?_, ?_, fun h hh => ?_⟩
    · rw [List.map_append, List.map_map]; rfl
    · rw [List.length_append, List.length_map, List.length_singleton]; omega
    · rcases List.mem_append.mp hh with z | z
      · obtain ⟨c, _, rfl⟩ := List.mem_map.mp z
        omega
      · have := List.mem_singleton.mp z
        omega
  show LoopW ((ms.map fun c : Int => T.int (c / 2 % 60)) ++ [T.int (ns.getD 1 0 % 60)]) _ _ _ [some (.lst (ns.map .int), false), some (.lst (ys.map .str), false), some (dfE o1 E1, false), some (dfE o2 E2, false), some (.tup [.lst (F1.map tri), .lst (F2.map tri)], false), some (.tup [.lst (F1.map tri), .lst (F2.map tri)], false), some (.lst ((ms.map fun c : Int => T.int (c / 2 % 60)) ++ [T.int (ns.getD 1 0 % 60)]), false), none, none, none, none, none]
  rw [ehs]
  refine loop_map (fun n ρ => ∃ b7 b8, ρ = [some (.lst (ns.map .int), false), some (.lst (ys.map .str), false), some (dfE o1 E1, false), some (dfE o2 E2, false), some (.tup [.lst (F1.map tri), .lst (F2.map tri)], false), some (.tup [.lst (F1.map tri), .lst (F2.map tri)], false), some (.lst (hs.map .int), false), b7, b8, none, none, none]) ⟨none, none, rfl⟩ ?_ ?_
  · rintro n h ρ hh ⟨b7, b8, rfl⟩
    refine loop_map (fun n ρ => ∃ b8, ρ = [some (.lst (ns.map .int), false), some (.lst (ys.map .str), false), some (dfE o1 E1, false), some (dfE o2 E2, false), some (.tup [.lst (F1.map tri), .lst (F2.map tri)], false), some (.tup [.lst (F1.map tri), .lst (F2.map tri)], false), some (.lst (hs.map .int), false), some (.int h, false), b8, none, none, none]) ⟨_, rfl⟩ ?_ ?_
    · rintro m y ρ hy ⟨b8, rfl⟩
      refine ⟨rfl, F1, F2, h, y, rfl, le8 (by simp), rfl, orE (pH h y) F1, ?_, _, rfl⟩
      show [T.int (orE (pH h y) F1), (gGet (ksE E1) (vsE E1) (kK (h, y))).getD (.int 0)] = _
      rw [get_or g1.nd (h, y), or_perm p1]
    · rintro ρ ⟨b8, rfl⟩
      exact ⟨_, _, rfl⟩
  · rintro ρ ⟨b7, b8, rfl⟩
    refine ⟨⟨by decide, by decide, by decide⟩, rfl, ns, 1, rfl, .inr ⟨by decide, by decide⟩, ⟨by decide, by decide, by decide⟩, (by show (0 : Int) < 2 ^ (60 : Int).toNat; decide), le8 (by simp), rfl, ?_⟩
    refine ⟨by rw [List.length_map]; exact le8 (by omega), wComp_mapL (u := fun h : Int => .int (1 * 2 ^ h.toNat)) (fun h hh r hr => ⟨⟨(hs0 h hh).1, by have := (hs0 h hh).2; show h ≤ 1000000; omega, by decide⟩, hr⟩) ?_⟩
    refine ⟨(by show 3 + (hs.map _).length ≤ sizeLine; rw [List.length_map]; exact le8 (by omega)), ?_⟩
    obtain ⟨ss, ess⟩ : ∃ ss : List Int, [T.int 0, .int (2 ^ (60 : Int).toNat - 1), .int (ns.getD 1 0 * 48271 % 2 ^ (60 : Int).toNat)] ++ (hs.map fun h : Int => T.int (1 * 2 ^ h.toNat)) = ss.map .int := by
      refine ⟨[0, 2 ^ (60 : Int).toNat - 1, ns.getD 1 0 * 48271 % 2 ^ (60 : Int).toNat] ++ hs.map (fun h : Int => 1 * 2 ^ h.toNat), ?_⟩
      rw [List.map_append, List.map_map]; rfl
    show LoopW ([T.int 0, .int (2 ^ (60 : Int).toNat - 1), .int (ns.getD 1 0 * 48271 % 2 ^ (60 : Int).toNat)] ++ (hs.map fun h : Int => T.int (1 * 2 ^ h.toNat))) _ _ _ [some (.lst (ns.map .int), false), some (.lst (ys.map .str), false), some (dfE o1 E1, false), some (dfE o2 E2, false), some (.tup [.lst (F1.map tri), .lst (F2.map tri)], false), some (.tup [.lst (F1.map tri), .lst (F2.map tri)], false), some (.lst (hs.map .int), false), none, b8, some (.lst ([T.int 0, .int (2 ^ (60 : Int).toNat - 1), .int (ns.getD 1 0 * 48271 % 2 ^ (60 : Int).toNat)] ++ (hs.map fun h : Int => T.int (1 * 2 ^ h.toNat))), false), none, none]
    rw [ess]
    refine loop_map (fun n ρ => ∃ b7 b8 b10 b11, ρ = [some (.lst (ns.map .int), false), some (.lst (ys.map .str), false), some (dfE o1 E1, false), some (dfE o2 E2, false), some (.tup [.lst (F1.map tri), .lst (F2.map tri)], false), some (.tup [.lst (F1.map tri), .lst (F2.map tri)], false), some (.lst (hs.map .int), false), b7, b8, some (.lst (ss.map .int), false), b10, b11]) ⟨_, _, none, none, rfl⟩ ?_ ?_
    · rintro n S ρ hS ⟨b7, b8, b10, b11, rfl⟩
      have y0 : (ys.map T.str)[0]? = some (.str (ys[0]'(by omega))) := by rw [List.getElem?_map, List.getElem?_eq_getElem (by omega)]; rfl
      have y1 : (ys.map T.str)[1]? = some (.str (ys[1]'(by omega))) := by rw [List.getElem?_map, List.getElem?_eq_getElem (by omega)]; rfl
      have y2 : (ys.map T.str)[2]? = some (.str (ys[2]'(by omega))) := by rw [List.getElem?_map, List.getElem?_eq_getElem (by omega)]; rfl
      have dot : (Str.ofString ".").length = 1 := by decide
      have z0 := hyl _ (List.getElem_mem (show 0 < ys.length by omega))
      have z1 := hyl _ (List.getElem_mem (show 1 < ys.length by omega))
      have z2 := hyl _ (List.getElem_mem (show 2 < ys.length by omega))
      have h1 : ∀ y : Str, y.length ≤ 100 → (Str.ofString ".").length + y.length ≤ sizeLine := fun y hy => le8 (by omega)
      refine ⟨_, atI_nat y0, h1 _ z0, _, atI_nat y1, h1 _ z1, _, atI_nat y2, h1 _ z2, le8 (by simp), ?_⟩
      show LoopW ([Str.ofString "#", Str.ofString "." ++ ys[0]'(by omega), Str.ofString "." ++ ys[1]'(by omega), Str.ofString "." ++ ys[2]'(by omega)].map T.str) _ _ _ _
      refine loop_map (fun n ρ => ∃ b11, ρ = [some (.lst (ns.map .int), false), some (.lst (ys.map .str), false), some (dfE o1 E1, false), some (dfE o2 E2, false), some (.tup [.lst (F1.map tri), .lst (F2.map tri)], false), some (.tup [.lst (F1.map tri), .lst (F2.map tri)], false), some (.lst (hs.map .int), false), b7, b8, some (.lst (ss.map .int), false), some (.int S, false), b11]) ⟨_, rfl⟩ ?_ ?_
      · rintro m z ρ hz ⟨b11, rfl⟩
        refine ⟨rfl, F1, F2, S, z, rfl, pos2, rfl, E2, o2, S, z, rfl, g2, rfl, orE (pK S z) F2, ?_, _, rfl⟩
        rw [or_perm p2]; rfl
      · rintro ρ ⟨b11, rfl⟩
        exact ⟨_, _, _, _, rfl⟩
    · rintro ρ ⟨b7, b8, b10, b11, rfl⟩
      have hp := lent_plain F1 F2
      refine ⟨hp, hp, lent_dep F1 F2, ?_⟩
      show q (.vw (.bl (eqT (.tup [.lst (F1.map tri), .lst (F2.map tri)]) (.tup [.lst (F1.map tri), .lst (F2.map tri)]))))
      rw [eqT_refl _ hp]
      exact hq
end
end K20L
set_option Elab.async false
set_option linter.all false
set_option maxRecDepth 100000
set_option maxHeartbeats 8000000
namespace K20F
open PySem L2 VT
theorem df_mk {K : PySem.W.Frag} {h : Heap} {mg : Str → Option Value} (X : K.In h) (G : h.Ns mainGlobals mg) {x : Str} {st : Stmt} {ps : List Str} {f : Addr} {oc : Value} {od an : Option Addr} {osl : Array (Option Value)} {kV doc pm cdv ct : Value}
    (a : PySem.W.nsIn K mainGlobals x = some (some (.ref f))) (l : K.lookup f = some ⟨oc, od, .func (PySem.W.fnOf x x (defArgs st) (defBody st) (defScope st) .none kV doc pm an cdv ct), osl⟩)
    (c : PySem.W.codeIn K cdv x = true) (k : PySem.W.keepIn K (.ref f) = true)
    (hb : ∀ (kV doc pm : Value) (an : Option Addr) (cdv ct : Value) (us : List Value), us.length = ps.length → bindArgs (PySem.W.fnOf x x (defArgs st) (defBody st) (defScope st) .none kV doc pm an cdv ct) ⟨us, []⟩ = pure (ps.zip us)) :
    ∃ f fd, Df K mg x st ps f fd := by
  have F := fun_mk (st := st) l c k
  exact ⟨f, _, F, PySem.W.mg_of X G a, F.binds hb⟩
theorem arg0 {C : List Value → Prop} (h : C []) : ∀ us : List Value, us.length = 0 → C us
  | [], _ => h
theorem argS {n : Nat} {C : List Value → Prop} (h : ∀ a, ∀ us : List Value, us.length = n → C (a :: us)) : ∀ us : List Value, us.length = n + 1 → C us
  | a :: us, e => h a us (Nat.succ.inj e)
theorem arg1 {C : List Value → Prop} (h : ∀ a, C [a]) : ∀ us : List Value, us.length = 1 → C us := argS fun a => arg0 (h a)
structure Defs (K : PySem.W.Frag) (mg : Str → Option Value) : Prop where
  d0 : ∃ f fd, Df K mg "has" K20L.s_has ["rows", "row"] f fd
  d1 : ∃ f fd, Df K mg "holds" K20L.s_holds ["table", "home", "name"] f fd
  d2 : ∃ f fd, Df K mg "keeps" K20L.s_keeps ["table", "rows", "kind"] f fd
  d3 : ∃ f fd, Df K mg "_law_cell_at" GenV.s_cell_at ["_law_script", "_law_k"] f fd
  d4 : ∃ f fd, Df K mg "_law_words" GenV.s_words ["_law_cell", "_law_many"] f fd
  d5 : ∃ f fd, Df K mg "_law_same" K20L.s_same ["_law_found", "_law_due"] f fd
  d6 : ∃ f fd, Df K mg "_law_filled" K20L.s_filled ["_law_script", "_law_words_here"] f fd
  d7 : ∃ f fd, Df K mg "_law_told" K20L.s_told ["_law_some"] f fd
  d8 : ∃ f fd, Df K mg "_law_kept" K20L.s_kept ["_law_cells", "_law_rows", "_law_kind"] f fd
theorem law_mk {l : PySem.W.OpenLaw} {w : World} {K : PySem.W.Frag} {h : Heap} {mg : Str → Option Value} {fa : Addr} (X : K.In h) (G : h.Ns mainGlobals mg) (hfa : mg "law" = some (.ref fa))
    {f : Addr} {oc : Value} {od an : Option Addr} {osl : Array (Option Value)} {kV doc pm cdv ct : Value}
    (a : PySem.W.nsIn K mainGlobals "law" = some (some (.ref f))) (l4 : K.lookup f = some ⟨oc, od, .func (PySem.W.fnOf "law" "law" (defArgs K20L.s_law) (defBody K20L.s_law) (defScope K20L.s_law) .none kV doc pm an cdv ct), osl⟩)
    (c : PySem.W.codeIn K cdv "law" = true) (k : PySem.W.keepIn K (.ref f) = true)
    (zn_isinstance : PySem.W.nsIn K mainGlobals "isinstance" = some none)
    (zn_str : PySem.W.nsIn K mainGlobals "str" = some none)
    (zn_int : PySem.W.nsIn K mainGlobals "int" = some none)
    (zn_bool : PySem.W.nsIn K mainGlobals "bool" = some none)
    (zn_len : PySem.W.nsIn K mainGlobals "len" = some none)
    (zn_range : PySem.W.nsIn K mainGlobals "range" = some none)
    (zn_list : PySem.W.nsIn K mainGlobals "list" = some none)
    (zn_sorted : PySem.W.nsIn K mainGlobals "sorted" = some none)
    (zn_tuple : PySem.W.nsIn K mainGlobals "tuple" = some none)
    (zn_sum : PySem.W.nsIn K mainGlobals "sum" = some none)
    (D : Defs K mg) :
    ∃ fd : FuncData, (∀ (s : Shared) (v : Value), BindsTo s fd ⟨[v], []⟩ [("_law_script", v)]) ∧ ∀ base : Heap, K.In base → base.Ns mainGlobals mg → FnOk l.prog w K mg base CX0 3 fa fd ["_law_script"] (spP K 1 K20L.gLaw) := by
  have e := hfa.symm.trans (PySem.W.mg_of X G a)
  cases e
  have MG : GenV.MgG mg := ⟨(PySem.W.mg_none_of X G zn_len), (PySem.W.mg_none_of X G zn_range), (PySem.W.mg_none_of X G zn_tuple), (PySem.W.mg_none_of X G zn_sum)⟩
  have ML : K20L.MgL mg := ⟨(PySem.W.mg_none_of X G zn_isinstance), (PySem.W.mg_none_of X G zn_str), (PySem.W.mg_none_of X G zn_int), (PySem.W.mg_none_of X G zn_bool), (PySem.W.mg_none_of X G zn_list), (PySem.W.mg_none_of X G zn_sorted)⟩
  obtain ⟨f0, fd0, D0⟩ := D.d0
  obtain ⟨f1, fd1, D1⟩ := D.d1
  obtain ⟨f2, fd2, D2⟩ := D.d2
  obtain ⟨f3, fd3, D3⟩ := D.d3
  obtain ⟨f4, fd4, D4⟩ := D.d4
  obtain ⟨f5, fd5, D5⟩ := D.d5
  obtain ⟨f6, fd6, D6⟩ := D.d6
  obtain ⟨f7, fd7, D7⟩ := D.d7
  obtain ⟨f8, fd8, D8⟩ := D.d8
  have F := fun_mk (st := K20L.s_law) l4 c k
  have DL : Df K mg "law" K20L.s_law ["_law_script"] fa _ := ⟨F, hfa, F.binds (fun _ _ _ _ _ _ => arg1 fun _ => rfl)⟩
  refine ⟨PySem.W.fnOf "law" "law" (defArgs K20L.s_law) (defBody K20L.s_law) (defScope K20L.s_law) .none kV doc pm an cdv ct, fun s v => .of_eq rfl, fun base _ _ => ?_⟩
  have c_has := K20L.ok_has (P := l.prog) (w := w) (base := base) D0
  have c_holds := K20L.ok_holds (P := l.prog) (w := w) (base := base) D1
  have c_keeps := K20L.ok_keeps (P := l.prog) (w := w) (base := base) D2 c_has
  have c__law_cell_at := GenV.ok_cell_at (P := l.prog) (w := w) (base := base) D3 MG
  have c__law_words := GenV.ok_words (P := l.prog) (w := w) (base := base) D4 MG
  have c__law_same := K20L.ok_sameJ (P := l.prog) (w := w) (base := base) D5 ML
  have c__law_filled := K20L.ok_filled (P := l.prog) (w := w) (base := base) D6
  have c__law_told := K20L.ok_told (P := l.prog) (w := w) (base := base) D7 ML
  have c__law_kept := K20L.ok_kept (P := l.prog) (w := w) (base := base) D8
  exact K20L.ok_law (P := l.prog) (w := w) (base := base) DL ML c__law_cell_at c__law_words c__law_filled c__law_told c_holds c_keeps c__law_kept c__law_same
theorem walk {l : PySem.W.OpenLaw} {q : Program} {loose : List Str} {XP : (Str → Option Value) → Heap → Prop} {YP : World → Heap → Prop} {d : DefRec} {K : Params → PySem.W.Frag} (hn : l.most = some 63) (hdf : d.params.defaults = [])
    (hY : ∀ (w : World) (h : Heap), YP w h → (K w.params).In h)
    (F : ∀ (w : World) (mg : Str → Option Value) (fa : Addr) (h : Heap), (K w.params).In h → h.Ns mainGlobals mg → mg d.name = some (.ref fa) →
      ∃ fd : FuncData, (∀ (s : Shared) (u : Value), BindsTo s fd ⟨[u], []⟩ [("_law_script", u)]) ∧ ∀ base : Heap, (K w.params).In base → base.Ns mainGlobals mg → FnOk l.prog w (K w.params) mg base CX0 3 fa fd ["_law_script"] (spP (K w.params) 1 K20L.gLaw)) :
    PySem.W.WalkO q loose XP YP l.row.toRowW d [] (fun f vs => PySem.call f vs) :=
  L2.walk_of (n := 63) (k := 3) (x := "_law_script") (CX := fun _ => CX0) (sp := fun w => spP (K w.params) 1 K20L.gLaw) hn (by decide) hdf ⟨rfl, by decide, by decide⟩ hY F (fun w H a ns hl _ hS =>
    ⟨[.lst (ns.map .int)], [], [], fun _ r => r = .vw (.bl true), List.nodup_nil, fun _ z => (nomatch z), fun _ z => (nomatch z), args_views rfl (AtL.cons (by
        simp only [At]
        refine ⟨a, ns.map V.int, rfl, hS.imp (fun z => ⟨z, fun m => nomatch m⟩) id, ?_⟩
        clear hS hl
        induction ns with
        | nil => exact AtL.nil
        | cons n ns ih => exact AtL.cons at_int ih) AtL.nil), ⟨ns, rfl, hl, rfl⟩, fun us r hr v H' _ z => by
        subst hr
        have := z.1
        simpa only [At] using this⟩) fun _ _ _ _ _ z => z
theorem walkX_of {q : Program} {loose : List Str} {XP : (Str → Option Value) → Heap → Prop} {K : Params → PySem.W.Frag} {as : List Addr} {n t : Nat} {r : PySem.W.RowW} {d : DefRec} {kwd : List (Str × Expr)} {run : Value → List Value → Sem Value} (e : ∀ P, as = (K P).map (·.1))
    (h : PySem.W.WalkO q loose XP (fun w h => (K w.params).In h) r d kwd run) : PySem.W.WalkX q loose XP (PySem.W.X.obsZ as) (PySem.W.X.valZ K n t) r d kwd run :=
  fun w s₀ s₁ mg mb G y a o pm cd doc dV kV h1 h2 h3 h4 h5 h6 args vals as' L hpre hlay hrd hwl hlo => h w s₀ s₁ mg mb G (PySem.W.InK.keeps w _ _ (PySem.W.X.z_facts e y).2.1 (PySem.W.Laid.keeps L)) a o pm cd doc dV kV h1 h2 h3 h4 h5 h6 args vals as' hpre hlay hrd hwl hlo
end K20F
open PySem PySem.W PyProof.Rows
set_option maxRecDepth 100000 in
set_option maxHeartbeats 0 in
theorem PySem.Challenge.cw_slicewise_k20_holds_and_keeps_holds : PySem.Challenge.rw_slicewise_k20_holds_and_keeps.Holds := by
  w_on; o_law; z_head; (case hw => w_witness2)
  refine K20F.walkX_of (fun _ => by kernel_rfl) ?_
  refine K20F.walk (l := PySem.Challenge.rw_slicewise_k20_holds_and_keeps) rfl rfl (fun w h Y => Y) ?F
  case F =>
    intro w mg fa h KX G hmg
    refine' K20F.law_mk KX G hmg ?a ?l ?c ?k ?zn_isinstance ?zn_str ?zn_int ?zn_bool ?zn_len ?zn_range ?zn_list ?zn_sorted ?zn_tuple ?zn_sum ⟨?d0, ?d1, ?d2, ?d3, ?d4, ?d5, ?d6, ?d7, ?d8⟩
    (case a => k_is); (case l => k_is); (case c => k_is); (case k => k_is)
    (case zn_isinstance => k_is)
    (case zn_str => k_is)
    (case zn_int => k_is)
    (case zn_bool => k_is)
    (case zn_len => k_is)
    (case zn_range => k_is)
    (case zn_list => k_is)
    (case zn_sorted => k_is)
    (case zn_tuple => k_is)
    (case zn_sum => k_is)
    (case d0 => refine' K20F.df_mk KX G ?a ?l ?c ?k (fun _ _ _ _ _ _ => (K20F.argS fun _ => (K20F.argS fun _ => (K20F.arg0 rfl)))); (case a => k_is); (case l => k_is); (case c => k_is); (case k => k_is))
    (case d1 => refine' K20F.df_mk KX G ?a ?l ?c ?k (fun _ _ _ _ _ _ => (K20F.argS fun _ => (K20F.argS fun _ => (K20F.argS fun _ => (K20F.arg0 rfl))))); (case a => k_is); (case l => k_is); (case c => k_is); (case k => k_is))
    (case d2 => refine' K20F.df_mk KX G ?a ?l ?c ?k (fun _ _ _ _ _ _ => (K20F.argS fun _ => (K20F.argS fun _ => (K20F.argS fun _ => (K20F.arg0 rfl))))); (case a => k_is); (case l => k_is); (case c => k_is); (case k => k_is))
    (case d3 => refine' K20F.df_mk KX G ?a ?l ?c ?k (fun _ _ _ _ _ _ => (K20F.argS fun _ => (K20F.argS fun _ => (K20F.arg0 rfl)))); (case a => k_is); (case l => k_is); (case c => k_is); (case k => k_is))
    (case d4 => refine' K20F.df_mk KX G ?a ?l ?c ?k (fun _ _ _ _ _ _ => (K20F.argS fun _ => (K20F.argS fun _ => (K20F.arg0 rfl)))); (case a => k_is); (case l => k_is); (case c => k_is); (case k => k_is))
    (case d5 => refine' K20F.df_mk KX G ?a ?l ?c ?k (fun _ _ _ _ _ _ => (K20F.argS fun _ => (K20F.argS fun _ => (K20F.arg0 rfl)))); (case a => k_is); (case l => k_is); (case c => k_is); (case k => k_is))
    (case d6 => refine' K20F.df_mk KX G ?a ?l ?c ?k (fun _ _ _ _ _ _ => (K20F.argS fun _ => (K20F.argS fun _ => (K20F.arg0 rfl)))); (case a => k_is); (case l => k_is); (case c => k_is); (case k => k_is))
    (case d7 => refine' K20F.df_mk KX G ?a ?l ?c ?k (fun _ _ _ _ _ _ => (K20F.argS fun _ => (K20F.arg0 rfl))); (case a => k_is); (case l => k_is); (case c => k_is); (case k => k_is))
    (case d8 => refine' K20F.df_mk KX G ?a ?l ?c ?k (fun _ _ _ _ _ _ => (K20F.argS fun _ => (K20F.argS fun _ => (K20F.argS fun _ => (K20F.arg0 rfl))))); (case a => k_is); (case l => k_is); (case c => k_is); (case k => k_is))
