import PyProof.Rows.All
import Wide.All
import OpenK.AllK
import Wide.FinOn
import Lean
import PyProof.EqAt
import PyProof.EqKinds
import PyProof.TupleCall
import PyProof.Rows.SortRunsK
import PySem.Challenge.RW_shadowheaps_k15_families_read_or_refused
set_option Elab.async false
set_option linter.all false
set_option maxRecDepth 100000
set_option Elab.async false
set_option linter.all false
set_option maxRecDepth 100000
namespace L2
open PySem PySem.Spec PyProof.Rows

noncomputable abbrev Key := Sum Int Str
noncomputable def keyIs : Key → Value → Bool
  | .inl k, v => Value.isInt k v
  | .inr x, v => Value.isStrOf x v
noncomputable def keyH (w : World) : Key → Int
  | .inl k => hashInt k
  | .inr x => hashStr w x
theorem keyIs_shape : ∀ {k : Key} {v : Value}, keyIs k v = true → (∃ i t, k = Sum.inl i ∧ v = Value.int i t) ∨ (∃ x t, k = Sum.inr x ∧ v = Value.str x t)
  | .inl i, v, h => by
    obtain ⟨t, e⟩ := Value.isInt_shape (k := i) (v := v) h
    exact .inl ⟨i, t, rfl, e⟩
  | .inr x, v, h => by
    obtain ⟨t, e⟩ := Value.isStrOf_shape (x := x) (v := v) h
    exact .inr ⟨x, t, rfl, e⟩
theorem keyIs_int (i : Int) (t : Tok) : keyIs (.inl i) (.int i t) = true := by simp [keyIs, Value.isInt]
theorem keyIs_str (x : Str) (t : Tok) : keyIs (.inr x) (.str x t) = true := by simp [keyIs, Value.isStrOf]
theorem key_ll (a b : Int) : decide ((Sum.inl a : Key) = Sum.inl b) = (a == b) := by
  by_cases e : a = b
  · subst e; simp
  · have h : ¬ (Sum.inl a : Key) = Sum.inl b := fun q => e (Sum.inl.inj q)
    rw [decide_eq_false h]
    exact (beq_eq_false_iff_ne.mpr e).symm
theorem key_rr (a b : Str) : decide ((Sum.inr a : Key) = Sum.inr b) = decide (a = b) := by
  by_cases e : a = b
  · subst e; simp
  · have h : ¬ (Sum.inr a : Key) = Sum.inr b := fun q => e (Sum.inr.inj q)
    rw [decide_eq_false h, decide_eq_false e]
theorem key_lr (a : Int) (b : Str) : decide ((Sum.inl a : Key) = Sum.inr b) = false := decide_eq_false (fun q => nomatch q)
theorem key_rl (a : Str) (b : Int) : decide ((Sum.inr a : Key) = Sum.inl b) = false := decide_eq_false (fun q => nomatch q)

noncomputable def mixKind (prog : Program) (w : World) : PySem.KeyKind prog w Key where
  is := keyIs
  hash := keyH w
  inj := fun v a b ha hb => by
    rcases keyIs_shape ha with ⟨i, t, rfl, rfl⟩ | ⟨x, t, rfl, rfl⟩
    · rcases keyIs_shape hb with ⟨j, u, rfl, e⟩ | ⟨y, u, rfl, e⟩
      · injection e with e1 _; rw [e1]
      · exact nomatch e
    · rcases keyIs_shape hb with ⟨j, u, rfl, e⟩ | ⟨y, u, rfl, e⟩
      · exact nomatch e
      · injection e with e1 _; rw [e1]
  byValue := fun k v h => by
    rcases keyIs_shape h with ⟨i, t, rfl, rfl⟩ | ⟨x, t, rfl, rfl⟩ <;> rfl
  pyHash := fun hv h => by
    rcases keyIs_shape hv with ⟨i, t, rfl, rfl⟩ | ⟨x, t, rfl, rfl⟩
    · exact wpAny_pyHash_int h
    · exact wpAny_pyHash_str h
  eqBool := fun hu hv h => by
    rcases keyIs_shape hu with ⟨i, t, rfl, rfl⟩ | ⟨x, t, rfl, rfl⟩
    · rcases keyIs_shape hv with ⟨j, u, rfl, rfl⟩ | ⟨y, u, rfl, rfl⟩
      · rw [key_ll] at h; exact wpAny_eqBool_int h
      · rw [key_lr] at h; exact SeqAt.EqAt.int_str i t y u _ _ _ _ h
    · rcases keyIs_shape hv with ⟨j, u, rfl, rfl⟩ | ⟨y, u, rfl, rfl⟩
      · rw [key_rl] at h; exact SeqAt.EqAt.str_int x t j u _ _ _ _ h
      · rw [key_rr] at h; exact wpAny_eqBool_str h
  «strs» := fun k x t v h => by
    rcases keyIs_shape h with ⟨i, u, rfl, e⟩ | ⟨y, u, rfl, e⟩
    · exact nomatch e
    · injection e with e1 _
      subst e1
      cases v <;> rfl

theorem mixKind_int (prog : Program) (w : World) (i : Int) (t : Tok) : (mixKind prog w).is (.inl i) (.int i t) = true := keyIs_int i t
theorem mixKind_str (prog : Program) (w : World) (x : Str) (t : Tok) : (mixKind prog w).is (.inr x) (.str x t) = true := keyIs_str x t
end L2

namespace L2
open PySem PySem.Spec PyProof.Rows

inductive V where
  | non | bl (b : Bool) | int (i : Int) | str (x : Str) | byt (b : Array UInt8) | flt (b : UInt64) | ref (a : Addr) | ty (n : String)
  deriving DecidableEq

noncomputable def RelV : V → Value → Prop
  | .non, u => u = Value.none
  | .bl b, u => u = Value.bool b
  | .int i, u => ∃ t, u = Value.int i t
  | .str x, u => ∃ t, u = Value.str x t
  | .byt b, u => ∃ t, u = Value.bytes b t
  | .flt b, u => ∃ t, u = Value.float b t
  | .ref a, u => u = Value.ref a
  | .ty n, u => u = Value.type n

noncomputable abbrev Vals : List V → List Value → Prop := Paired RelV
theorem Vals.length {xs : List V} {us : List Value} (r : Vals xs us) : xs.length = us.length := Paired.length r
theorem Vals.get : ∀ {xs : List V} {us : List Value} {i : Nat} {x : V}, Vals xs us → xs[i]? = some x → ∃ u, us[i]? = some u ∧ RelV x u
  | _, _, _, _, .nil, e => by simp at e
  | _, _, 0, _, .cons r _, e => by simp at e; subst e; exact ⟨_, rfl, r⟩
  | _, _, i + 1, x, .cons _ t, e => by
    obtain ⟨u, h1, h2⟩ := Vals.get (i := i) (x := x) t (by simpa using e)
    exact ⟨u, by simpa using h1, h2⟩
theorem Vals.append : ∀ {xs ys : List V} {us ws : List Value}, Vals xs us → Vals ys ws → Vals (xs ++ ys) (us ++ ws)
  | _, _, _, _, .nil, s => s
  | _, _, _, _, .cons r t, s => .cons r (Vals.append t s)
theorem Vals.take : ∀ {xs : List V} {us : List Value} (n : Nat), Vals xs us → Vals (xs.take n) (us.take n)
  | _, _, 0, _ => .nil
  | _, _, _ + 1, .nil => .nil
  | _, _, n + 1, .cons r t => .cons r (Vals.take n t)
theorem Vals.drop : ∀ {xs : List V} {us : List Value} (n : Nat), Vals xs us → Vals (xs.drop n) (us.drop n)
  | _, _, 0, r => r
  | _, _, _ + 1, .nil => .nil
  | _, _, n + 1, .cons _ t => Vals.drop n t
noncomputable def RelO : Option V → Option Value → Prop
  | some v, some u => RelV v u
  | none, none => True
  | _, _ => False
noncomputable def KV {κ : Type} : List (κ × V) → List (κ × Value) → Prop := Paired fun (p : κ × V) (q : κ × Value) => p.1 = q.1 ∧ RelV p.2 q.2

noncomputable def kV : Key → V
  | .inl i => .int i
  | .inr x => .str x

inductive HO where
  | lst (xs : List V)
  | tup (xs : List V)
  | dK (kvs : List (Key × V)) | dT (kvs : List (List Key × V))
  | set (S : Int → Bool) (n : Nat)
  | ins (C dx : Addr) (fs : List (Str × V))
  | own (x : Addr)
  | xd (fs : List (Str × V))
  | met (f x : Addr)
  | rng (lo hi : Int)
  | frz (o : Obj) (u : HO)
  | tbl (ps : Array Value)
  | ext (φ : Heap → Prop)

noncomputable abbrev Hp := Addr → Option HO
noncomputable def upd (H : Hp) (a : Addr) (o : HO) : Hp := fun b => if b = a then some o else H b
theorem upd_same {H : Hp} {a : Addr} {o : HO} : upd H a o a = some o := by unfold upd; rw [if_pos rfl]
theorem upd_ne {H : Hp} {a b : Addr} {o : HO} (h : b ≠ a) : upd H a o b = H b := by unfold upd; rw [if_neg h]
theorem upd_upd {H : Hp} {a : Addr} {o u : HO} : upd (upd H a o) a u = upd H a u := by
  funext b; unfold upd; split <;> rfl
theorem ne_of {H : Hp} {a b : Addr} {o u : HO} (h : H a = some o) (h' : H b = some u) (d : o ≠ u) : a ≠ b := by
  intro e; subst e; rw [h] at h'; exact d (Option.some.inj h')
theorem ne_of_none {H : Hp} {a b : Addr} {o : HO} (h : H a = some o) (h' : H b = none) : a ≠ b := by
  intro e; subst e; rw [h] at h'; cases h'

section
variable (P : Program) (w : World)
noncomputable def ObjOk (H : Hp) (h : Heap) (a : Addr) : HO → Prop
  | .lst xs => xs.length ≤ sizeLine ∧ ∃ (its : List Value) (n : Nat), Vals xs its ∧ h.get? a = some { cls := .type "list", data := .seq its.toArray n }
  | .tup xs => xs.length ≤ sizeLine ∧ ∃ its : List Value, Vals xs its ∧ IsTup h a its.toArray
  | .dK kvs => kvs.length ≤ sizeLine ∧ (a == sysModules) = false ∧ ∃ vs, KV kvs vs ∧ h.DictOf (mixKind P w) a vs
  | .dT kvs => kvs.length ≤ sizeLine ∧ (a == sysModules) = false ∧ ∃ xs : List (List Key × Addr × Value),
      Paired (fun (p : List Key × V) (q : List Key × Addr × Value) => p.1 = q.1 ∧ H q.2.1 = some (.tup (p.1.map kV)) ∧ RelV p.2 q.2.2) kvs xs ∧
      ∃ o es ep, h.get? a = some o ∧ o.ExactDict ∧ o.data = .dict es ep ∧ es.toList = xs.map (entryOfKey (tupleKind (mixKind P w))) ∧ (xs.map (·.1)).Nodup
  | .set S n => h.SetOf (intKind P w) a S n
  | .ins C dx fs => H dx = some (.own a) ∧ fs.length ≤ 1000 ∧ dx ≠ a ∧ h.get? a = some (PySem.W.instObj C dx) ∧
      ∃ mA, h.Ns1 dx mA ∧ (∀ f, RelO (fs.lookup f) (mA f)) ∧ PySem.Within mA (fs.map (·.1))
  | .own _ => ∃ o, h.get? a = some o
  | .xd fs => ∃ mA, h.Ns1 a mA ∧ ∀ f, RelO (fs.lookup f) (mA f)
  | .rng lo hi => ∃ t u v, h.get? a = some { cls := .type "range", data := .fields #[.int lo t, .int hi u, .int 1 v] }
  | .frz o u => h.get? a = some o ∧ ObjOk H h a u
  | .tbl ps => h.get? a = some { cls := .none, data := .fields ps }
  | .met f x => h.get? a = some (PySem.W.methodObj (.ref f) (.ref x))
  | .ext φ => φ h ∧ (∃ o, h.get? a = some o) ∧ ∀ h1 h2 : Heap, φ h1 → (∀ o, h1.get? a = some o → h2.get? a = some o) → φ h2
noncomputable def HOk (H : Hp) (h : Heap) : Prop := ∀ a o, H a = some o → ObjOk P w H h a o
end

section
variable {P : Program} {w : World} {H H' : Hp} {h h' : Heap} {a : Addr} {o : HO}
theorem ObjOk.lt (x : ObjOk P w H h a o) : a < h.objs.size := by
  cases o with
  | lst xs => obtain ⟨_, _, _, _, e⟩ := x; exact Heap.lt_size e
  | tup xs => obtain ⟨_, _, _, p⟩ := x; exact p.lt
  | dK kvs => obtain ⟨_, _, _, _, o, _, _, e, _⟩ := x; exact Heap.lt_size e
  | dT kvs => obtain ⟨_, _, _, _, o, _, _, e, _⟩ := x; exact Heap.lt_size e
  | set S n => obtain ⟨o, _, _, _, e, _⟩ := x; exact Heap.lt_size e
  | ins C dx fs => obtain ⟨_, _, _, e, _⟩ := x; exact Heap.lt_size e
  | own y => obtain ⟨_, e⟩ := x; exact Heap.lt_size e
  | xd fs => obtain ⟨_, ⟨_, _, _, e, _⟩, _⟩ := x; exact Heap.lt_size e
  | rng lo hi => obtain ⟨_, _, _, e⟩ := x; exact Heap.lt_size e
  | frz ob u => obtain ⟨e, _⟩ := x; exact Heap.lt_size e
  | tbl ps => exact Heap.lt_size (show h.get? a = some _ from x)
  | met f y => exact Heap.lt_size (show h.get? a = some _ from x)
  | ext φ => obtain ⟨_, ⟨_, e⟩, _⟩ := x; exact Heap.lt_size e
theorem Paired.mapP {α β : Type} {F G : α → β → Prop} : ∀ {l₁ : List α} {l₂ : List β}, Paired F l₁ l₂ → (∀ a b, F a b → G a b) → Paired G l₁ l₂
  | _, _, .nil, _ => .nil
  | _, _, .cons r t, f => .cons (f _ _ r) (Paired.mapP t f)
theorem ObjOk.stay (x : ObjOk P w H h a o) (k : ∀ b u, (b = a ∨ H b = some (.own a)) → h.get? b = some u → h'.get? b = some u)
    (ho : ∀ b, H b = some (.own a) → H' b = some (.own a)) (ht : ∀ b xs, H b = some (.tup xs) → H' b = some (.tup xs)) : ObjOk P w H' h' a o := by
  induction o with
  | lst xs => obtain ⟨z, its, n, r, e⟩ := x; exact ⟨z, its, n, r, k _ _ (.inl rfl) e⟩
  | tup xs => obtain ⟨z, its, r, ob, e, c⟩ := x; exact ⟨z, its, r, ob, k _ _ (.inl rfl) e, c⟩
  | dK kvs => obtain ⟨z, y, vs, r, ob, es, ep, e, c⟩ := x; exact ⟨z, y, vs, r, ob, es, ep, k _ _ (.inl rfl) e, c⟩
  | dT kvs =>
    obtain ⟨z, y, xs, r, ob, es, ep, e, c⟩ := x
    exact ⟨z, y, xs, Paired.mapP r fun p q z => ⟨z.1, ht _ _ z.2.1, z.2.2⟩, ob, es, ep, k _ _ (.inl rfl) e, c⟩
  | set S n => obtain ⟨ob, es, ep, t, e, c⟩ := x; exact ⟨ob, es, ep, t, k _ _ (.inl rfl) e, c⟩
  | ins C dx fs =>
    obtain ⟨d, z, ne, e, mA, ⟨od, es, ep, e2, c⟩, r⟩ := x
    exact ⟨ho _ d, z, ne, k _ _ (.inl rfl) e, mA, ⟨od, es, ep, k _ _ (.inr d) e2, c⟩, r⟩
  | own y => obtain ⟨ob, e⟩ := x; exact ⟨ob, k _ _ (.inl rfl) e⟩
  | xd fs => obtain ⟨mA, ⟨od, es, ep, e, c⟩, r⟩ := x; exact ⟨mA, ⟨od, es, ep, k _ _ (.inl rfl) e, c⟩, r⟩
  | rng lo hi => obtain ⟨t, u, v, e⟩ := x; exact ⟨t, u, v, k _ _ (.inl rfl) e⟩
  | frz ob u ih => obtain ⟨e, q⟩ := x; exact ⟨k _ _ (.inl rfl) e, ih q⟩
  | tbl ps =>
    have e : h.get? a = some { cls := .none, data := .fields ps } := x
    show h'.get? a = some { cls := .none, data := .fields ps }
    exact k a _ (.inl rfl) e
  | met f y =>
    have e : h.get? a = some (PySem.W.methodObj (.ref f) (.ref y)) := x
    show h'.get? a = some (PySem.W.methodObj (.ref f) (.ref y))
    exact k a _ (.inl rfl) e
  | ext φ => obtain ⟨p, ⟨o, e⟩, st⟩ := x; exact ⟨st _ _ p fun o q => k _ _ (.inl rfl) q, ⟨o, k _ _ (.inl rfl) e⟩, st⟩
theorem HOk.lt (x : HOk P w H h) (e : H a = some o) : a < h.objs.size := (x a o e).lt
theorem HOk.fresh (x : HOk P w H h) (e : h.objs.size ≤ a) : H a = none := by
  cases q : H a with
  | none => rfl
  | some u => exact absurd (Nat.lt_of_lt_of_le (x.lt q) e) (Nat.lt_irrefl _)
theorem HOk.kept (x : HOk P w H h) (k : ∀ b u, h.get? b = some u → h'.get? b = some u) : HOk P w H h' := fun a o e =>
  (x a o e).stay (fun b u _ q => k b u q) (fun _ q => q) fun _ _ q => q
theorem HOk.laid (x : HOk P w H h) (k : ∀ b u, h.get? b = some u → h'.get? b = some u) (hp : h.objs.size ≤ a) (new : ObjOk P w (upd H a o) h' a o) : HOk P w (upd H a o) h' := fun b u e => by
  have hn := x.fresh hp
  by_cases hb : b = a
  · subst hb; rw [upd_same] at e; cases e; exact new
  · rw [upd_ne hb] at e
    exact (x b u e).stay (fun c v _ q => k c v q) (fun c q => by rw [upd_ne (ne_of_none q hn)]; exact q) fun c xs q => by rw [upd_ne (ne_of_none q hn)]; exact q
end

noncomputable def Rd (H : Hp) (a : Addr) (u : HO) : Prop := H a = some u ∨ ∃ o, H a = some (.frz o u)
theorem Rd.ok {P : Program} {w : World} {H : Hp} {h : Heap} {a : Addr} {u : HO} (r : Rd H a u) (x : HOk P w H h) : ObjOk P w H h a u := by
  rcases r with r | ⟨o, r⟩
  · exact x a u r
  · obtain ⟨_, q⟩ := x a _ r
    exact q
noncomputable def Mut : Option HO → Prop
  | some (.lst _) => True
  | some (.dK _) => True
  | some (.dT _) => True
  | some (.set _ _) => True
  | some (.ins _ _ _) => True
  | some (.ext _) => True
  | _ => False
section
variable {P : Program} {w : World} {H : Hp} {h h' : Heap} {x e : Addr} {o' : HO}
theorem HOk.write (ok : HOk P w H h) (mu : Mut (H x)) (he : e = x ∨ H e = some (.own x)) (k : ∀ b u, b ≠ e → h.get? b = some u → h'.get? b = some u) (heo : ∃ u, h'.get? e = some u)
    (new : ObjOk P w (upd H x o') h' x o') : HOk P w (upd H x o') h' := fun b u q => by
  have nown : ∀ c y, H c = some (.own y) → c ≠ x := fun c y r z => by subst z; rw [r] at mu; exact mu
  have ntup : ∀ c xs, H c = some (.tup xs) → c ≠ x := fun c xs r z => by subst z; rw [r] at mu; exact mu
  by_cases hb : b = x
  · subst hb; rw [upd_same] at q; cases q; exact new
  · rw [upd_ne hb] at q
    by_cases hbe : b = e
    · have q' : H b = some (.own x) := by
        rcases he with z | z
        · exact absurd (hbe.trans z) hb
        · rw [hbe]; exact z
      rw [q] at q'; cases q'
      obtain ⟨v, hv⟩ := heo
      exact ⟨v, by rw [hbe]; exact hv⟩
    · refine (ok b u q).stay (fun c v hc r => k c v ?_ r) (fun c r => by rw [upd_ne (nown c b r)]; exact r) fun c xs r => by rw [upd_ne (ntup c xs r)]; exact r
      rcases hc with rfl | hc
      · exact hbe
      · rintro rfl
        rcases he with z | z
        · exact nown c b hc z
        · rw [hc] at z; cases z; exact hb rfl
end

structure Un (fs ex : List Addr) (H H' : Hp) (h h' : Heap) : Prop where
  keep : ∀ b o, h.get? b = some o → H b = none → b ∉ fs → b ∉ ex → h'.get? b = some o
  slot : ∀ b o, h.get? b = some o → H b = none → b ∈ fs → b ∉ ex → ∃ sl, h'.get? b = some { o with slots := sl }
  free : ∀ b o, h.get? b = some o → H b = none → b ∉ ex → H' b = none
  there : ∀ b o, h.get? b = some o → b ∉ ex → ∃ o', h'.get? b = some o'
  tups : ∀ b xs, H b = some (.tup xs) → H' b = some (.tup xs)
  frzs : ∀ b o u, H b = some (.frz o u) → H' b = some (.frz o u)
  tbls : ∀ b ps, H b = some (.tbl ps) → ∃ more, H' b = some (.tbl (ps ++ more))
section
variable {fs fs' ex ex' : List Addr} {H H1 H2 : Hp} {h h1 h2 h' : Heap} {a x e : Addr} {o : HO}
theorem Un.any (u : Un fs ex H H1 h h1) {b : Addr} {ob : Obj} (q : h.get? b = some ob) (n : H b = none) (hx : b ∉ ex) : ∃ sl, h1.get? b = some { ob with slots := sl } := by
  by_cases hb : b ∈ fs
  · exact u.slot b ob q n hb hx
  · exact ⟨ob.slots, u.keep b ob q n hb hx⟩
theorem Un.kept (k : ∀ b u, h.get? b = some u → h'.get? b = some u) : Un fs ex H H h h' :=
  ⟨fun b ob q _ _ _ => k b ob q, fun b ob q _ _ _ => ⟨ob.slots, k b ob q⟩, fun _ _ _ n _ => n, fun b ob q _ => ⟨ob, k b ob q⟩, fun _ _ q => q, fun _ _ _ q => q, fun _ ps q => ⟨#[], by rw [q]; simp⟩⟩
theorem Un.refl : Un fs ex H H h h := Un.kept fun _ _ q => q
theorem Un.laid (k : ∀ b u, h.get? b = some u → h'.get? b = some u) (hp : h.objs.size ≤ a) (hn : H a = none) : Un fs ex H (upd H a o) h h' where
  keep := fun b u q _ _ _ => k b u q
  slot := fun b u q _ _ _ => ⟨u.slots, k b u q⟩
  free := fun b u q n _ => by rw [upd_ne (Nat.ne_of_lt (Nat.lt_of_lt_of_le (Heap.lt_size q) hp))]; exact n
  there := fun b u q _ => ⟨u, k b u q⟩
  tups := fun b xs q => by rw [upd_ne (ne_of_none q hn)]; exact q
  frzs := fun b u xs q => by rw [upd_ne (ne_of_none q hn)]; exact q
  tbls := fun b ps q => ⟨#[], by rw [upd_ne (ne_of_none q hn), q]; simp⟩
theorem Un.write (mu : Mut (H x)) (he : e = x ∨ H e = some (.own x)) (k : ∀ b u, b ≠ e → h.get? b = some u → h'.get? b = some u) (heo : ∃ u, h'.get? e = some u) : Un fs ex H (upd H x o) h h' := by
  have hx : ∀ b, H b = none → b ≠ x := fun b n z => by subst z; rw [n] at mu; exact mu
  have hb : ∀ b, H b = none → b ≠ e := fun b n z => by
    subst z
    rcases he with r | r
    · exact hx b n r
    · rw [n] at r; cases r
  have hm : ∀ b u, H b = some u → ¬ Mut (some u) → b ≠ x := fun b u q nm z => by subst z; rw [q] at mu; exact nm mu
  refine ⟨fun b u q n _ _ => k b u (hb b n) q, fun b u q n _ _ => ⟨u.slots, k b u (hb b n) q⟩, fun b u q n _ => by rw [upd_ne (hx b n)]; exact n, fun b u q _ => ?_,
    fun b xs q => by rw [upd_ne (hm b _ q fun z => z)]; exact q, fun b u xs q => by rw [upd_ne (hm b _ q fun z => z)]; exact q, fun b ps q => ⟨#[], by rw [upd_ne (hm b _ q fun z => z), q]; simp⟩⟩
  by_cases hbe : b = e
  · subst hbe; exact heo
  · exact ⟨u, k b u hbe q⟩
end

noncomputable def trk (h : Heap) (H : Hp) : List Addr := (List.range h.objs.size).filter fun a => (H a).isSome
noncomputable def hidT (h : Heap) (H : Hp) : Heap := PySem.W.hideAll h (trk h H)
theorem hidT_size (h : Heap) (H : Hp) : (hidT h H).objs.size = h.objs.size := PySem.W.hideAll_size _ _
theorem hidT_get {h : Heap} {H : Hp} {b : Addr} {o : Obj} (e : h.get? b = some o) (n : H b = none) : (hidT h H).get? b = some o :=
  PySem.W.hideAll_get _ e fun hm => by
    have q : (H b).isSome = true := (List.mem_filter.mp hm).2
    rw [n] at q; simp at q
theorem of_hidT {h : Heap} {H : Hp} {b : Addr} {o : Obj} (e : (hidT h H).get? b = some o) : h.get? b = some o ∧ H b = none := by
  have e' : h.get? b = some o := PySem.W.of_hideAll (trk h H) e
  refine ⟨e', ?_⟩
  cases q : H b with
  | none => rfl
  | some x =>
    have hm : b ∈ trk h H := List.mem_filter.mpr ⟨List.mem_range.mpr (Heap.lt_size e'), by simp [q]⟩
    have z : (hidT h H).get? b = none := PySem.W.hideAll_none (trk h H) hm
    rw [z] at e; cases e

noncomputable def allNews (g h : Heap) (L : Addr) : List (Addr × Obj) := (List.range h.objs.size).filterMap fun a => if a = L ∨ (g.get? a).isSome = true then none else (h.get? a).map fun o => (a, o)
noncomputable def rest (g h : Heap) (L d : Addr) : List (Addr × Obj) := (allNews g h L).filter fun p => decide (p.1 ≠ d)
end L2

namespace L2
open PySem PySem.Spec PyProof.Rows

structure Mod (K : PySem.W.Frag) (mg : Str → Option Value) (base : Heap) : Prop where
  kin : K.In base
  glob : base.Ns mainGlobals mg
  blt : ∃ mb, base.Ns builtinsNs mb ∧ ∀ x : Str, x ≠ "__name__" → mb x = bootBuiltins x
  nolimit : base.NoLimit

/-- the context: a def's body (or a comprehension's block) running. base: fixed through the whole law; s₀, H₀: the entry; outer: the frames whose slots others may change (a def's callers); stack: all frames that run;
   ex: iterators that were made ahead of the entry and are walked here (a comprehension's); fn: the names whose cells were made at the entry (a def: all; a comprehension's block: its own); calm: not within an except suite; pn: pins that every state bears; xe: what is wanted of an exception that leaves the code -/
structure Cx where
  prog : Program
  w : World
  K : PySem.W.Frag
  mg : Str → Option Value
  base : Heap
  A : Around
  N : List Str
  s₀ : Shared
  H₀ : Hp
  env : Env
  outer : List Env
  stack : List Env
  ex : List Addr
  fn : Str → Bool
  calm : Bool
  pn : List (Addr × Obj)
  xe : Value → Shared → Prop
noncomputable def frs (l : List Env) : List Addr := l.filterMap (·.frame)
noncomputable abbrev Cx.fs (X : Cx) : List Addr := frs X.outer

noncomputable def Vis (sc : Scope) (x : Str) : Prop := sc.names.lookup x = some .local ∨ sc.names.lookup x = some .cell ∨ sc.names.lookup x = some .free
noncomputable def Loc (sc : Scope) (x : Str) : Prop := sc.names.lookup x = some .local ∨ sc.names.lookup x = some .cell
noncomputable def Look (env : Env) (h : Heap) (m : Str → Option Value) (x : Str) (u : Value) : Prop :=
  (env.kindOf x = some .local ∧ m x = some u) ∨ ((env.kindOf x = some .cell ∨ env.kindOf x = some .free) ∧ ∃ c, env.cells.lookup x = some c ∧ h.IsCell c (some u))

structure Cx.Ok (X : Cx) : Prop where
  mod : Mod X.K X.mg X.base
  kind : X.env.scope.kind = .function
  glob : X.env.globals = mainGlobals
  blt : X.env.builtins = builtinsNs
  above : X.s₀.heap.objs.size ≤ X.env.locals
  inj : ∀ x y c, X.env.cells.lookup x = some c → X.env.cells.lookup y = some c → x = y
  has : ∀ x, (X.env.kindOf x = some .cell ∨ X.env.kindOf x = some .free) → ∃ c, X.env.cells.lookup x = some c
  cab : ∀ x c, X.fn x = true → X.env.cells.lookup x = some c → X.s₀.heap.objs.size ≤ c
  hd : X.calm = true → X.A.handled = none
  frames : X.A.frames = some X.stack
  stk : X.stack = X.outer ∨ (X.stack = X.env :: X.outer ∧ X.env.frame = some X.env.locals)
  exf : ∀ b ∈ X.ex, b ≠ X.env.locals ∧ ∀ x c, X.env.cells.lookup x = some c → c ≠ b
  bs : ∀ b o, X.base.get? b = some o → X.s₀.heap.get? b = some o ∧ X.H₀ b = none
  bsz : X.base.objs.size ≤ X.s₀.heap.objs.size
  noex : ∀ b o, X.base.get? b = some o → b ∉ X.ex
  exfs : ∀ b ∈ X.ex, b ∉ X.fs
  funs : X.s₀.heap.FunFrames X.base X.outer
  frf : ∀ b ∈ X.fs, X.H₀ b = none

structure Inv (X : Cx) (pins : List (Addr × Obj)) (σ : List (Option V)) (H : Hp) (s : Shared) : Prop where
  ok : X.Ok
  os : s.os = X.s₀.os
  bare : AllBare s.gens
  base : Un X.fs X.ex X.H₀ H X.s₀.heap s.heap
  loc : ∃ m, s.heap.Ns X.env.locals m ∧ ∀ (i : Nat) (x : Str) (v : V), X.N[i]? = some x → σ[i]? = some (some v) → Vis X.env.scope x → ∃ u, RelV v u ∧ Look X.env s.heap m x u
  cell : ∀ x c, X.env.cells.lookup x = some c → ∃ v, s.heap.IsCell c v
  free : H X.env.locals = none
  freeC : ∀ x c, X.env.cells.lookup x = some c → H c = none
  pin : ∀ p ∈ X.pn ++ pins, s.heap.get? p.1 = some p.2 ∧ H p.1 = none ∧ p.1 ≠ X.env.locals ∧ p.1 ∉ X.fs ∧ ∀ v, p.2.data ≠ .cell v
  hok : HOk X.prog X.w H s.heap
  len : σ.length = X.N.length

section
variable {X : Cx} {pins : List (Addr × Obj)} {σ : List (Option V)} {H H' : Hp} {s : Shared} {h' : Heap}

theorem Cx.Ok.nofr (ok : X.Ok) {b : Addr} {o : Obj} (e : X.base.get? b = some o) : b ∉ X.fs := fun hb => by
  have := (ok.funs.mem hb).1
  rw [e] at this; cases this
theorem Inv.bs (I : Inv X pins σ H s) : ∀ b o, X.base.get? b = some o → s.heap.get? b = some o ∧ H b = none := fun b o e =>
  ⟨I.base.keep b o (I.ok.bs b o e).1 (I.ok.bs b o e).2 (I.ok.nofr e) (I.ok.noex b o e), I.base.free b o (I.ok.bs b o e).1 (I.ok.bs b o e).2 (I.ok.noex b o e)⟩
theorem Inv.bk (I : Inv X pins σ H s) : ∀ b o, X.base.get? b = some o → s.heap.get? b = some o := fun b o e => (I.bs b o e).1
theorem Inv.mod (I : Inv X pins σ H s) : Mod X.K X.mg X.base := I.ok.mod
theorem Inv.kIn (I : Inv X pins σ H s) : X.K.In s.heap := I.ok.mod.kin.keeps I.bk
theorem Inv.lt (I : Inv X pins σ H s) : X.env.locals < s.heap.objs.size := let ⟨_, hn, _⟩ := I.loc; hn.lt
theorem Inv.sz (I : Inv X pins σ H s) : X.s₀.heap.objs.size ≤ s.heap.objs.size := Nat.le_trans I.ok.above (Nat.le_of_lt I.lt)
theorem Inv.nofs (I : Inv X pins σ H s) {a : Addr} (h : s.heap.objs.size ≤ a) : a ∉ X.fs := fun hb => by
  obtain ⟨_, o, ho, _⟩ := I.ok.funs.mem hb
  exact absurd (Nat.lt_of_lt_of_le (Heap.lt_size ho) (Nat.le_trans I.sz h)) (Nat.lt_irrefl _)
theorem Inv.cne (I : Inv X pins σ H s) : ∀ x c, X.env.cells.lookup x = some c → c ≠ X.env.locals := fun x c e z => by
  obtain ⟨v, o, ho, hd⟩ := I.cell x c e
  obtain ⟨m, ⟨o', es, ep, ho', hd', _⟩, _⟩ := I.loc
  rw [z, ho'] at ho; cases ho; rw [hd'] at hd; cases hd
theorem Inv.funs (I : Inv X pins σ H s) : s.heap.FunFrames X.base X.outer := by
  have all : ∀ (l : List Env), (∀ b ∈ frs l, b ∈ X.fs) → X.s₀.heap.FunFrames X.base l → s.heap.FunFrames X.base l := by
    intro l
    induction l with
    | nil => intro _ _; trivial
    | cons env r ih =>
      intro hs hl
      obtain ⟨hk, ⟨L, o, hf, hn, ho, hd⟩, hr⟩ := hl
      have hL : L ∈ X.fs := hs L (by unfold frs; rw [List.filterMap_cons, hf]; exact List.mem_cons_self)
      obtain ⟨sl, e⟩ := I.base.slot L o ho (I.ok.frf L hL) hL fun z => I.ok.exfs L z hL
      exact ⟨hk, ⟨L, _, hf, hn, e, hd⟩, ih (fun b hb => hs b (by unfold frs; rw [List.filterMap_cons, hf]; exact List.mem_cons_of_mem _ hb)) hr⟩
  exact all X.outer (fun _ hb => hb) I.ok.funs

theorem Inv.stack (I : Inv X pins σ H s) : s.heap.FunFrames X.base X.stack := by
  rcases I.ok.stk with e | ⟨e, hf⟩
  · rw [e]; exact I.funs
  · rw [e]
    obtain ⟨m, hn, _⟩ := I.loc
    refine .cons (by rw [I.ok.kind]; decide) hf hn ?_ I.funs
    exact Heap.get?_none_of_le (Nat.le_trans I.ok.bsz I.ok.above)
theorem Inv.stkSub (I : Inv X pins σ H s) : ∀ b ∈ frs X.stack, b ∈ X.env.locals :: X.fs := fun b hb => by
  rcases I.ok.stk with e | ⟨e, hf⟩
  · rw [e] at hb; exact List.mem_cons_of_mem _ hb
  · rw [e] at hb
    unfold frs at hb
    rw [List.filterMap_cons, hf] at hb
    exact hb
theorem Inv.stkFree (I : Inv X pins σ H s) : ∀ b ∈ frs X.stack, H b = none := fun b hb => by
  rcases List.mem_cons.mp (I.stkSub b hb) with e | hb
  · rw [e]; exact I.free
  · obtain ⟨_, o, ho, _⟩ := I.ok.funs.mem hb
    exact I.base.free b o ho (I.ok.frf b hb) fun z => I.ok.exfs b z hb

theorem Inv.step {g' : Array GenState} {t' : Nat} {d' : Drawn} {ch : List Addr} (I : Inv X pins σ H s)
    (hch : ∀ b ∈ ch, (b ∈ X.ex ∨ X.s₀.heap.objs.size ≤ b) ∧ b ≠ X.env.locals ∧ (∀ x c, X.env.cells.lookup x = some c → c ≠ b) ∧ ∀ p ∈ X.pn ++ pins, p.1 ≠ b)
    (keep : ∀ b o, b ≠ X.env.locals → b ∉ X.fs → b ∉ ch → s.heap.get? b = some o → H b = none → h'.get? b = some o)
    (slot : ∀ b o, b ≠ X.env.locals → b ∈ X.fs → b ∉ ch → s.heap.get? b = some o → H b = none → ∃ sl, h'.get? b = some { o with slots := sl }) (free : ∀ b o, b ∉ ch → s.heap.get? b = some o → H b = none → H' b = none)
    (there : ∀ b o, b ∉ ch → s.heap.get? b = some o → ∃ o', h'.get? b = some o')
    (tups : ∀ b xs, H b = some (.tup xs) → H' b = some (.tup xs)) (frzs : ∀ b o u, H b = some (.frz o u) → H' b = some (.frz o u)) (tbls : ∀ b ps, H b = some (.tbl ps) → ∃ more, H' b = some (.tbl (ps ++ more)))
    (ns : ∀ m, s.heap.Ns X.env.locals m → h'.Ns X.env.locals m) (hok : HOk X.prog X.w H' h') (hg : AllBare g') :
    Inv X pins σ H' { s with heap := h', gens := g', drawn := d', toks := t' } := by
  have neL : ∀ b o, X.s₀.heap.get? b = some o → b ≠ X.env.locals := fun b o e => Nat.ne_of_lt (Nat.lt_of_lt_of_le (Heap.lt_size e) I.ok.above)
  have neC : ∀ b o, X.s₀.heap.get? b = some o → b ∉ X.ex → b ∉ ch := fun b o e hx hb => by
    rcases (hch b hb).1 with z | z
    · exact hx z
    · exact absurd (Nat.lt_of_lt_of_le (Heap.lt_size e) z) (Nat.lt_irrefl _)
  have cellK : ∀ x c, X.env.cells.lookup x = some c → ∀ v, s.heap.IsCell c v → h'.IsCell c v := fun x c e v ⟨o, ho, hd⟩ => by
    have nch : c ∉ ch := fun z => (hch c z).2.2.1 x c e rfl
    by_cases hc : c ∈ X.fs
    · obtain ⟨sl, q⟩ := slot c o (I.cne x c e) hc nch ho (I.freeC x c e)
      exact ⟨_, q, hd⟩
    · exact ⟨o, keep c o (I.cne x c e) hc nch ho (I.freeC x c e), hd⟩
  refine ⟨I.ok, I.os, hg, ⟨fun b o e n hb hx => ?_, fun b o e n hb hx => ?_, fun b o e n hx => ?_, fun b o e hx => ?_, fun b xs e => tups b xs (I.base.tups b xs e), fun b o xs e => frzs b o xs (I.base.frzs b o xs e), fun b ps e => ?_⟩, ?_, fun x c e => ?_, ?_, fun x c e => ?_, fun p hp => ?_, hok, I.len⟩
  · exact keep b o (neL b o e) hb (neC b o e hx) (I.base.keep b o e n hb hx) (I.base.free b o e n hx)
  · obtain ⟨sl, e1⟩ := I.base.slot b o e n hb hx
    obtain ⟨sl', e2⟩ := slot b _ (neL b o e) hb (neC b o e hx) e1 (I.base.free b o e n hx)
    exact ⟨sl', e2⟩
  · obtain ⟨o', e1⟩ := I.base.there b o e hx
    exact free b o' (neC b o e hx) e1 (I.base.free b o e n hx)
  · obtain ⟨o', e1⟩ := I.base.there b o e hx
    exact there b o' (neC b o e hx) e1
  · obtain ⟨m1, e1⟩ := I.base.tbls b ps e
    obtain ⟨m2, e2⟩ := tbls b _ e1
    exact ⟨m1 ++ m2, by rw [e2, Array.append_assoc]⟩
  · obtain ⟨m, hn, hl⟩ := I.loc
    refine ⟨m, ns m hn, fun i x v e1 e2 e3 => ?_⟩
    obtain ⟨u, r, l⟩ := hl i x v e1 e2 e3
    refine ⟨u, r, ?_⟩
    rcases l with l | ⟨k, c, e, z⟩
    · exact .inl l
    · exact .inr ⟨k, c, e, cellK x c e _ z⟩
  · obtain ⟨v, z⟩ := I.cell x c e
    exact ⟨v, cellK x c e v z⟩
  · obtain ⟨m, ⟨o, _, _, ho, _⟩, _⟩ := I.loc
    exact free _ o (fun z => (hch _ z).2.1 rfl) ho I.free
  · obtain ⟨v, o, ho, hd⟩ := I.cell x c e
    exact free c o (fun z => (hch c z).2.2.1 x c e rfl) ho (I.freeC x c e)
  · obtain ⟨e, n, ne, nf, d⟩ := I.pin p hp
    have nch : p.1 ∉ ch := fun z => (hch p.1 z).2.2.2 p hp rfl
    exact ⟨keep p.1 p.2 ne nf nch e n, free p.1 p.2 nch e n, ne, nf, d⟩
theorem Inv.un {t' : Nat} (I : Inv X pins σ H s) (u : Un X.fs [] H H' s.heap h') (hok : HOk X.prog X.w H' h') : Inv X pins σ H' { s with heap := h', toks := t' } := by
  obtain ⟨m, ⟨o, es, ep, ho, r⟩, _⟩ := id I.loc
  obtain ⟨sl, hL⟩ := u.any ho I.free (by simp)
  exact I.step (g' := s.gens) (d' := s.drawn) (ch := []) (fun _ z => nomatch z) (fun b o _ hb _ e n => u.keep b o e n hb (by simp)) (fun b o _ hb _ e n => u.slot b o e n hb (by simp)) (fun b o _ e n => u.free b o e n (by simp)) (fun b o _ e => u.there b o e (by simp)) u.tups u.frzs u.tbls (fun m' hm => by
    obtain ⟨o', es', ep', ho', r'⟩ := hm
    rw [ho] at ho'; cases ho'
    exact ⟨_, es', ep', hL, r'⟩) hok I.bare
theorem Inv.call {g' : Array GenState} {t' : Nat} {d' : Drawn} {ch : List Addr} (I : Inv X pins σ H s) (u : Un (frs X.stack) ch H H' s.heap h') (hok : HOk X.prog X.w H' h') (hg : AllBare g')
    (hch : ∀ b ∈ ch, (b ∈ X.ex ∨ X.s₀.heap.objs.size ≤ b) ∧ b ≠ X.env.locals ∧ (∀ x c, X.env.cells.lookup x = some c → c ≠ b) ∧ ∀ p ∈ X.pn ++ pins, p.1 ≠ b) :
    Inv X pins σ H' { s with heap := h', gens := g', drawn := d', toks := t' } := by
  obtain ⟨m, ⟨o, es, ep, ho, r⟩, _⟩ := id I.loc
  obtain ⟨sl, hL⟩ := u.any ho I.free fun z => (hch _ z).2.1 rfl
  exact I.step (ch := ch) hch (fun b o hL hb hc e n => u.keep b o e n (fun z => (List.mem_cons.mp (I.stkSub b z)).elim hL hb) hc) (fun b o _ _ hc e n => u.any e n hc) (fun b o hc e n => u.free b o e n hc) (fun b o hc e => u.there b o e hc) u.tups u.frzs u.tbls (fun m' hm => by
    obtain ⟨o', es', ep', ho', r'⟩ := hm
    rw [ho] at ho'; cases ho'
    exact ⟨_, es', ep', hL, r'⟩) hok hg
theorem Inv.turned {t' : Nat} {it : Addr} (I : Inv X pins σ H s) (k : ∀ b o, b ≠ it → s.heap.get? b = some o → h'.get? b = some o) (hn : H it = none) (hL : it ≠ X.env.locals)
    (h1 : it ∈ X.ex ∨ X.s₀.heap.objs.size ≤ it) (h2 : ∀ x c, X.env.cells.lookup x = some c → c ≠ it) (h3 : ∀ p ∈ X.pn ++ pins, p.1 ≠ it) : Inv X pins σ H { s with heap := h', toks := t' } := by
  have nit : ∀ b u, H b = some u → b ≠ it := fun b u e z => by rw [z, hn] at e; cases e
  refine I.step (g' := s.gens) (d' := s.drawn) (ch := [it]) (fun b hb => ?_) (fun b o _ _ hc e _ => k b o (fun z => hc (by simp [z])) e) (fun b o _ _ hc e _ => ⟨o.slots, k b o (fun z => hc (by simp [z])) e⟩) (fun _ _ _ _ n => n)
    (fun b o hc e => ⟨o, k b o (fun z => hc (by simp [z])) e⟩) (fun _ _ e => e) (fun _ _ _ e => e) (fun b ps e => ⟨#[], by rw [e]; simp⟩) (fun m hm => ?_) (fun b u e => ?_) I.bare
  · have e : b = it := by simpa using hb
    subst e
    exact ⟨h1, hL, h2, h3⟩
  · obtain ⟨o, es, ep, ho, r⟩ := hm
    exact ⟨o, es, ep, k _ o (Ne.symm hL) ho, r⟩
  · refine (I.hok b u e).stay (fun c v hc q => k c v ?_ q) (fun _ q => q) fun _ _ q => q
    rcases hc with z | z
    · rw [z]; exact nit b u e
    · exact nit c _ z
theorem Inv.tok (I : Inv X pins σ H s) (t : Nat) : Inv X pins σ H { s with toks := t } := I.un (h' := s.heap) (t' := t) Un.refl I.hok
theorem Inv.kept {t' : Nat} (I : Inv X pins σ H s) (k : ∀ b u, s.heap.get? b = some u → h'.get? b = some u) : Inv X pins σ H { s with heap := h', toks := t' } := I.un (Un.kept k) (I.hok.kept k)
theorem Inv.laid {a : Addr} {o : HO} {t' : Nat} (I : Inv X pins σ H s) (k : ∀ b u, s.heap.get? b = some u → h'.get? b = some u) (hp : s.heap.objs.size ≤ a) (new : ObjOk X.prog X.w (upd H a o) h' a o) :
    Inv X pins σ (upd H a o) { s with heap := h', toks := t' } := I.un (Un.laid k hp (I.hok.fresh hp)) (I.hok.laid k hp new)
theorem Inv.write {x e : Addr} {o : HO} {t' : Nat} (I : Inv X pins σ H s) (mu : Mut (H x)) (he : e = x ∨ H e = some (.own x)) (k : ∀ b u, b ≠ e → s.heap.get? b = some u → h'.get? b = some u) (heo : ∃ u, h'.get? e = some u)
    (new : ObjOk X.prog X.w (upd H x o) h' x o) : Inv X pins σ (upd H x o) { s with heap := h', toks := t' } := I.un (Un.write mu he k heo) (I.hok.write mu he k heo new)
theorem Inv.weak {σ' : List (Option V)} (I : Inv X pins σ H s) (hl : σ'.length = σ.length) (w : ∀ (i : Nat) v, σ'[i]? = some (some v) → σ[i]? = some (some v)) : Inv X pins σ' H s :=
  ⟨I.ok, I.os, I.bare, I.base, let ⟨m, hn, hl'⟩ := I.loc; ⟨m, hn, fun i x v e1 e2 e3 => hl' i x v e1 (w i v e2) e3⟩, I.cell, I.free, I.freeC, I.pin, I.hok, hl.trans I.len⟩
theorem Inv.pins_of {pins' : List (Addr × Obj)} (I : Inv X pins σ H s) (h : ∀ p ∈ pins', s.heap.get? p.1 = some p.2 ∧ H p.1 = none ∧ p.1 ≠ X.env.locals ∧ p.1 ∉ X.fs ∧ ∀ v, p.2.data ≠ .cell v) : Inv X pins' σ H s :=
  ⟨I.ok, I.os, I.bare, I.base, I.loc, I.cell, I.free, I.freeC, fun p hp => (List.mem_append.mp hp).elim (fun z => I.pin p (List.mem_append_left _ z)) (h p), I.hok, I.len⟩

theorem nodup_ix {N : List Str} (hN : N.Nodup) {i j : Nat} {x : Str} (a : N[i]? = some x) (b : N[j]? = some x) : i = j := by
  obtain ⟨h1, e1⟩ := List.getElem?_eq_some_iff.mp a
  obtain ⟨h2, e2⟩ := List.getElem?_eq_some_iff.mp b
  exact (List.getElem_inj hN).mp (e1.trans e2.symm)

theorem store_ok2 {M : Model} {A : Around} {E : Value → Shared → Prop} {i : Nat} {x : Str} {v : V} {u : Value} {Q : Unit → Shared → Prop} (I : Inv X pins σ H s) (hN : X.N.Nodup) (hi : X.N[i]? = some x) (hx : Loc X.env.scope x) (r : RelV v u)
    (h : ∀ s', Inv X pins (σ.set i (some v)) H s' → (∃ a, Heap.SameBut a s.heap s'.heap ∧ (a = X.env.locals ∨ X.env.cells.lookup x = some a)) → Q () s') (hf : X.fn x = true ∨ X.env.scope.names.lookup x = some .local := by first | exact .inl rfl | exact .inr rfl | assumption) : wpAny M A (storeName X.env x u) Q E s := by
  obtain ⟨m, hn, hl⟩ := id I.loc
  have hcls : (X.env.scope.kind == .class || (X.env.scope.kind == .module && X.env.locals != X.env.globals)) = false := by rw [I.ok.kind]; rfl
  have hiσ : i < σ.length := by rw [I.len]; exact (List.getElem?_eq_some_iff.mp hi).1
  have cne := I.cne
  have tracked : ∀ {a : Addr} {h' : Heap}, (∃ o, s.heap.get? a = some o ∧ H a = none) → Heap.SameBut a s.heap h' → HOk X.prog X.w H h' := fun {a h'} ha hs b ob e => by
    obtain ⟨_, _, hfree⟩ := ha
    refine (I.hok b ob e).stay (fun c w' hc q => (hs.2 c ?_).trans q) (fun _ q => q) fun _ _ q => q
    rintro rfl
    rcases hc with rfl | hc
    · rw [hfree] at e; cases e
    · rw [hfree] at hc; cases hc
  rcases hx with hk | hk
  · refine wpAny_storeName_local hk hn (fun h' hn' hs => ?_) hcls
    obtain ⟨oL, _, _, hoL, _⟩ := id hn
    refine h _ ⟨I.ok, I.os, I.bare, ⟨fun b o e n hb hx => ?_, fun b o e n hb hx => ?_, I.base.free, fun b o e hx => ?_, I.base.tups, I.base.frzs, I.base.tbls⟩, ⟨_, hn', fun j y v' e1 e2 e3 => ?_⟩, fun y c e => ?_, I.free, I.freeC, fun p hp => ?_, tracked ⟨oL, hoL, I.free⟩ hs, by simpa using I.len⟩ ⟨_, hs, .inl rfl⟩
    · exact (hs.2 b (Nat.ne_of_lt (Nat.lt_of_lt_of_le (Heap.lt_size e) I.ok.above))).trans (I.base.keep b o e n hb hx)
    · obtain ⟨sl, e1⟩ := I.base.slot b o e n hb hx
      exact ⟨sl, (hs.2 b (Nat.ne_of_lt (Nat.lt_of_lt_of_le (Heap.lt_size e) I.ok.above))).trans e1⟩
    · obtain ⟨o', e1⟩ := I.base.there b o e hx
      exact ⟨o', (hs.2 b (Nat.ne_of_lt (Nat.lt_of_lt_of_le (Heap.lt_size e) I.ok.above))).trans e1⟩
    · by_cases hj : j = i
      · subst hj
        rw [hi] at e1; cases e1
        rw [List.getElem?_set_self hiσ] at e2
        cases e2
        exact ⟨u, r, .inl ⟨hk, by simp⟩⟩
      · rw [List.getElem?_set_ne (Ne.symm hj)] at e2
        obtain ⟨u', r', q⟩ := hl j y v' e1 e2 e3
        refine ⟨u', r', ?_⟩
        rcases q with ⟨k, e⟩ | ⟨k, c, e, z⟩
        · refine .inl ⟨k, ?_⟩
          have : y ≠ x := fun e => hj (nodup_ix hN e1 (e ▸ hi))
          simp [this, e]
        · exact .inr ⟨k, c, e, z.sameBut hs (cne y c e)⟩
    · obtain ⟨w', z⟩ := I.cell y c e
      exact ⟨w', z.sameBut hs (cne y c e)⟩
    · obtain ⟨e, n, ne, nf, d⟩ := I.pin p hp
      exact ⟨(hs.2 p.1 ne).trans e, n, ne, nf, d⟩
  · have hfn : X.fn x = true := by
      rcases hf with z | z
      · exact z
      · rw [z] at hk; cases hk
    obtain ⟨c, hc⟩ := I.ok.has x (.inl hk)
    obtain ⟨w', z⟩ := I.cell x c hc
    refine wpAny_storeName_cell I.ok.kind hk hc z (fun h' hc' hs => ?_)
    obtain ⟨oc, hoc, hocd⟩ := id z
    refine h { s with heap := h' } ⟨I.ok, I.os, I.bare, ⟨fun b o e n hb hx => ?_, fun b o e n hb hx => ?_, I.base.free, fun b o e hx => ?_, I.base.tups, I.base.frzs, I.base.tbls⟩, ⟨m, hn.sameBut hs (Ne.symm (cne x c hc)), fun j y v' e1 e2 e3 => ?_⟩, fun y c' e => ?_, I.free, I.freeC, fun p hp => ?_, tracked ⟨oc, hoc, I.freeC x c hc⟩ hs, by simpa using I.len⟩ ⟨c, hs, .inr hc⟩
    · exact (hs.2 b (Nat.ne_of_lt (Nat.lt_of_lt_of_le (Heap.lt_size e) (I.ok.cab x c hfn hc)))).trans (I.base.keep b o e n hb hx)
    · obtain ⟨sl, e1⟩ := I.base.slot b o e n hb hx
      exact ⟨sl, (hs.2 b (Nat.ne_of_lt (Nat.lt_of_lt_of_le (Heap.lt_size e) (I.ok.cab x c hfn hc)))).trans e1⟩
    · obtain ⟨o', e1⟩ := I.base.there b o e hx
      exact ⟨o', (hs.2 b (Nat.ne_of_lt (Nat.lt_of_lt_of_le (Heap.lt_size e) (I.ok.cab x c hfn hc)))).trans e1⟩
    · by_cases hj : j = i
      · subst hj
        rw [hi] at e1; cases e1
        rw [List.getElem?_set_self hiσ] at e2
        cases e2
        exact ⟨u, r, .inr ⟨.inl hk, c, hc, hc'⟩⟩
      · rw [List.getElem?_set_ne (Ne.symm hj)] at e2
        obtain ⟨u', r', q⟩ := hl j y v' e1 e2 e3
        refine ⟨u', r', ?_⟩
        rcases q with q | ⟨k, c', e, z'⟩
        · exact .inl q
        · refine .inr ⟨k, c', e, z'.sameBut hs ?_⟩
          rintro rfl
          exact hj (nodup_ix hN e1 (I.ok.inj _ _ _ e hc ▸ hi))
    · by_cases hcc : c' = c
      · subst hcc; exact ⟨_, hc'⟩
      · obtain ⟨w2, z2⟩ := I.cell y c' e
        exact ⟨w2, z2.sameBut hs hcc⟩
    · obtain ⟨e, n, ne, nf, d⟩ := I.pin p hp
      refine ⟨(hs.2 p.1 ?_).trans e, n, ne, nf, d⟩
      intro q
      rw [q, hoc] at e
      have q' : oc = p.2 := Option.some.inj e
      exact d w' (by rw [← q']; exact hocd)
theorem store_ok {M : Model} {A : Around} {E : Value → Shared → Prop} {i : Nat} {x : Str} {v : V} {u : Value} {Q : Unit → Shared → Prop} (I : Inv X pins σ H s) (hN : X.N.Nodup) (hi : X.N[i]? = some x) (hx : Loc X.env.scope x) (r : RelV v u)
    (h : ∀ s', Inv X pins (σ.set i (some v)) H s' → Q () s') (hf : X.fn x = true ∨ X.env.scope.names.lookup x = some .local := by first | exact .inl rfl | exact .inr rfl | assumption) : wpAny M A (storeName X.env x u) Q E s :=
  store_ok2 I hN hi hx r (fun s' I' _ => h s' I') hf
theorem Inv.call' {s' : Shared} {ch : List Addr} (I : Inv X pins σ H s) (ho : s'.os = s.os) (u : Un (frs X.stack) ch H H' s.heap s'.heap) (hok : HOk X.prog X.w H' s'.heap) (hg : AllBare s'.gens)
    (hch : ∀ b ∈ ch, (b ∈ X.ex ∨ X.s₀.heap.objs.size ≤ b) ∧ b ≠ X.env.locals ∧ (∀ x c, X.env.cells.lookup x = some c → c ≠ b) ∧ ∀ p ∈ X.pn ++ pins, p.1 ≠ b) : Inv X pins σ H' s' := by
  obtain ⟨h', g', d', t', o'⟩ := s'
  have e : o' = s.os := ho
  subst e
  exact I.call (g' := g') (t' := t') (d' := d') u hok hg hch
end

noncomputable abbrev XK := Value → Option Addr → Hp → Prop
noncomputable abbrev St := List (Option V)
noncomputable abbrev VK := V → Hp → Prop
noncomputable abbrev TE := St → Hp → VK → Prop
noncomputable abbrev TT := St → Hp → (Bool → Hp → Prop) → Prop
noncomputable abbrev TA := St → Hp → (List V → Hp → Prop) → Prop
structure Ends where
  nx : St → Hp → Prop
  rt : VK
  bk : St → Hp → Prop := fun _ _ => False
  ct : St → Hp → Prop := fun _ _ => False
noncomputable abbrev TS := Ends → St → Hp → Prop

noncomputable def EP (X : Cx) (pins : List (Addr × Obj)) (σ : St) (Q : VK) (u : Value) (s' : Shared) : Prop := ∃ v H', Inv X pins σ H' s' ∧ RelV v u ∧ Q v H'
noncomputable def TP (X : Cx) (pins : List (Addr × Obj)) (σ : St) (Q : Bool → Hp → Prop) (b : Bool) (s' : Shared) : Prop := ∃ H', Inv X pins σ H' s' ∧ Q b H'
noncomputable def AP (X : Cx) (pins : List (Addr × Obj)) (σ : St) (Q : List V → Hp → Prop) (us : List Value) (s' : Shared) : Prop := ∃ vs H', Inv X pins σ H' s' ∧ Vals vs us ∧ Q vs H'
noncomputable def SP (X : Cx) (pins : List (Addr × Obj)) (D : Ends) (f : Flow) (s' : Shared) : Prop :=
  match f with
  | .next => ∃ σ' H', Inv X pins σ' H' s' ∧ D.nx σ' H'
  | .brk => ∃ σ' H', Inv X pins σ' H' s' ∧ D.bk σ' H'
  | .cont => ∃ σ' H', Inv X pins σ' H' s' ∧ D.ct σ' H'
  | .ret u => ∃ v σ' H', Inv X pins σ' H' s' ∧ RelV v u ∧ D.rt v H'

noncomputable def PE (X : Cx) (e : Expr) (t : TE) : Prop :=
  ∀ (pins : List (Addr × Obj)) (s : Shared) (σ : St) (H : Hp) (Q : VK), Inv X pins σ H s → t σ H Q → wpAny (model X.prog X.w) X.A (eval e X.env) (EP X pins σ Q) X.xe s
noncomputable def PT (X : Cx) (e : Expr) (t : TT) : Prop :=
  ∀ (pins : List (Addr × Obj)) (s : Shared) (σ : St) (H : Hp) (Q : Bool → Hp → Prop), Inv X pins σ H s → t σ H Q → wpAny (model X.prog X.w) X.A (isTrue e X.env (eval e X.env)) (TP X pins σ Q) X.xe s
noncomputable def PW (X : Cx) (e : Expr) (t : TT) : Prop :=
  ∀ (whole : Sem Value) (pins : List (Addr × Obj)) (s : Shared) (σ : St) (H : Hp) (Q : Bool → Hp → Prop), Inv X pins σ H s → t σ H Q → wpAny (model X.prog X.w) X.A (isTrue e X.env whole) (TP X pins σ Q) X.xe s
theorem PW.pt {X : Cx} {e : Expr} {t : TT} (h : PW X e t) : PT X e t := h _
noncomputable def PA (X : Cx) (es : List Expr) (t : TA) : Prop :=
  ∀ (pos : Pos) (pins : List (Addr × Obj)) (s : Shared) (σ : St) (H : Hp) (Q : List V → Hp → Prop), Inv X pins σ H s → t σ H Q → wpAny (model X.prog X.w) X.A (spliced (backTo pos (starEach es X.env))) (AP X pins σ Q) X.xe s
noncomputable def PS (X : Cx) (st : Stmt) (t : TS) : Prop :=
  ∀ (pins : List (Addr × Obj)) (s : Shared) (σ : St) (H : Hp) (D : Ends), Inv X pins σ H s → t D σ H → wpAny (model X.prog X.w) X.A (exec st X.env) (SP X pins D) X.xe s
noncomputable def PSs (X : Cx) (st : List Stmt) (t : TS) : Prop :=
  ∀ (pins : List (Addr × Obj)) (s : Shared) (σ : St) (H : Hp) (D : Ends), Inv X pins σ H s → t D σ H → wpAny (model X.prog X.w) X.A (execs st X.env) (SP X pins D) X.xe s
theorem thn {α : Type} {t : Sem α} {Q Q' : α → Shared → Prop} {M : Model} {A : Around} {E : Value → Shared → Prop} {s : Shared} (h : wpAny M A t Q E s) (hQ : ∀ a s, Q a s → Q' a s) : wpAny M A t Q' E s := wpAny_mono h hQ fun _ _ x => x
end L2

namespace L2
open PySem PySem.Spec PyProof.Rows
section
variable {X : Cx}

noncomputable def tVar (i : Nat) : TE := fun σ H Q => ∃ v, σ[i]? = some (some v) ∧ Q v H
noncomputable def tC (v : V) : TE := fun _ H Q => Q v H
theorem pe_var {i : Nat} {x : Str} {pos : Pos} (hN : X.N[i]? = some x) (hv : Vis X.env.scope x) (hd : (x == ("__debug__" : Str)) = false := by decide) (hcd : (x == ("__classdict__" : Str)) = false := by decide) : PE X (.Name x pos) (tVar i) := by
  intro pins s σ H Q I h
  obtain ⟨v, e, h⟩ := h
  obtain ⟨m, hn, hl⟩ := I.loc
  obtain ⟨u, r, l⟩ := hl i x v hN e hv
  have fin : EP X pins σ Q u s := ⟨v, H, I, r, h⟩
  rcases l with ⟨hk, hm⟩ | ⟨hk, c, hc, hcell⟩
  · exact wpAny_Name (wpAny_loadName_local I.ok.kind hk hn hm fin) hd
  · rcases hk with hk | hk
    · exact wpAny_Name (wpAny_loadName_cell I.ok.kind hk hc hcell fin) hd
    · exact wpAny_Name (wpAny_loadName_free I.ok.kind hk hc hcell fin hcd) hd
theorem pe_int {i j pos} : PE X (.Constant (.int i) j pos) (tC (.int i)) := fun _ _ _ H _ I h => wpAny_Constant_int ⟨.int i, H, I.tok _, ⟨_, rfl⟩, h⟩
theorem pe_bl {b j pos} : PE X (.Constant (.bool b) j pos) (tC (.bl b)) := fun _ _ _ H _ I h => Constant_bool ⟨.bl b, H, I, rfl, h⟩
theorem pe_non {j pos} : PE X (.Constant .none j pos) (tC .non) := fun _ _ _ H _ I h => Constant_none ⟨.non, H, I, rfl, h⟩
theorem pe_str {x j pos} : PE X (.Constant (.str x) j pos) (tC (.str x)) := fun _ _ _ H _ I h => Calls.Constant_str ⟨.str x, H, I.tok _, ⟨_, rfl⟩, h⟩

noncomputable def Gl (X : Cx) (x : Str) : Prop := X.env.kindOf x = some .globalImplicit
theorem ld_glob {E : Value → Shared → Prop} {pins : List (Addr × Obj)} {s : Shared} {σ : St} {H : Hp} {x : Str} {u : Value} {pos : Pos} {Q : Value → Shared → Prop} (I : Inv X pins σ H s) (hg : Gl X x) (hm : X.mg x = some u) (h : Q u s)
    (hd : (x == ("__debug__" : Str)) = false := by decide) : wpAny (model X.prog X.w) X.A (eval (.Name x pos) X.env) Q E s :=
  Calls.Name_function_global I.ok.kind hg (Calls.loadGlobal_global (by rw [I.ok.glob]; exact I.mod.glob.keeps I.bk) hm h) hd
theorem ld_blt {E : Value → Shared → Prop} {pins : List (Addr × Obj)} {s : Shared} {σ : St} {H : Hp} {x : Str} {u : Value} {pos : Pos} {Q : Value → Shared → Prop} (I : Inv X pins σ H s) (hg : Gl X x) (hm : X.mg x = none) (hv : bootBuiltins x = some u) (h : Q u s)
    (hn : x ≠ "__name__" := by decide) (hd : (x == ("__debug__" : Str)) = false := by decide) : wpAny (model X.prog X.w) X.A (eval (.Name x pos) X.env) Q E s := by
  obtain ⟨mb, h1, h2⟩ := I.mod.blt
  exact Calls.Name_function_global I.ok.kind hg (Calls.loadGlobal_builtin (by rw [I.ok.glob]; exact I.mod.glob.keeps I.bk) hm (by rw [I.ok.blt]; exact h1.keeps I.bk) ((h2 x hn).trans hv) h) hd
theorem pe_glob {x : Str} {v : V} {u : Value} {pos : Pos} (hg : Gl X x) (hm : X.mg x = some u) (r : RelV v u) (hd : (x == ("__debug__" : Str)) = false := by decide) : PE X (.Name x pos) (tC v) :=
  fun _ _ _ H _ I h => ld_glob I hg hm ⟨v, H, I, r, h⟩ hd
theorem pe_bltn {x : Str} {v : V} {u : Value} {pos : Pos} (hg : Gl X x) (hm : X.mg x = none) (hv : bootBuiltins x = some u) (r : RelV v u) (hn : x ≠ "__name__" := by decide) (hd : (x == ("__debug__" : Str)) = false := by decide) : PE X (.Name x pos) (tC v) :=
  fun _ _ _ H _ I h => ld_blt I hg hm hv ⟨v, H, I, r, h⟩ hn hd

variable {a b : Expr} {ta tb : TE} {pos : Pos}
noncomputable def PC (X : Cx) (op : CmpOp) (a b : Expr) (t : TE) : Prop :=
  ∀ (pins : List (Addr × Obj)) (s : Shared) (σ : St) (H : Hp) (Q : VK), Inv X pins σ H s → t σ H Q →
    wpAny (model X.prog X.w) X.A (eval a X.env) (fun v s₁ => wpAny (model X.prog X.w) X.A (eval b X.env) (fun u s₂ => wpAny (model X.prog X.w) X.A (compareOp op v u) (EP X pins σ Q) X.xe s₂) X.xe s₁) X.xe s
theorem nobehind (b : Expr) {op : CmpOp} (h : op ≠ .In) (h2 : op ≠ .NotIn) : behindInMarks op b = false := by
  have e1 : (op == CmpOp.In) = false := by cases op <;> first | rfl | exact absurd rfl h
  have e2 : (op == CmpOp.NotIn) = false := by cases op <;> first | rfl | exact absurd rfl h2
  cases b <;> simp [behindInMarks, e1, e2]
noncomputable def tB (t : TE) : TT := fun σ H Q => t σ H fun x H1 => ∃ c, x = .bl c ∧ Q c H1
theorem pt_cmp {op : CmpOp} {t : TE} (h : PC X op a b t) (h1 : behindInMarks op b = false := by first | exact nobehind _ (by decide) (by decide) | rfl) : PT X (.Compare a [op] [b] pos) (tB t) := by
  intro pins s σ H Q I hw
  refine wpAny_isTrue_Compare1 (thn (h pins s σ H _ I hw) fun v s1 h1 => thn h1 fun u s2 h2 => thn h2 fun c s3 ⟨x, H1, I1, r1, q1⟩ => ?_) h1
  obtain ⟨d, rfl, q⟩ := q1
  cases r1
  exact wpAny_truthy_bool ⟨H1, I1, q⟩
theorem pt_val {e : Expr} {t : TE} (h : PE X e t) (he : ∀ whole, isTrue e X.env whole = (do let v ← whole; standAt e.pos; holding [v] (truthy v)) := by intro _; rfl) : PT X e (tB t) := by
  intro pins s σ H Q I hw
  refine isTrue_plain (thn (h pins s σ H _ I hw) fun v s1 ⟨x, H1, I1, r1, q1⟩ => ?_) (he _)
  obtain ⟨d, rfl, q⟩ := q1
  cases r1
  exact wpAny_truthy_bool ⟨H1, I1, q⟩

variable {tA tB' : TT} {rest : List Expr}
noncomputable def tAnd (t u : TT) : TT := fun σ H Q => t σ H fun c H1 => if c = true then u σ H1 Q else Q false H1
noncomputable def tOr (t u : TT) : TT := fun σ H Q => t σ H fun c H1 => if c = true then Q true H1 else u σ H1 Q
noncomputable def tNot (t : TT) : TT := fun σ H Q => t σ H fun c H1 => Q (!c) H1
theorem pw_and1 (ha : PT X a tA) : PW X (.BoolOp .And [a] pos) tA := by
  intro wh pins s σ H Q I h
  refine isTrue_and (thn (ha pins s σ H Q I h) fun c s1 e => ?_)
  cases c with
  | true => exact isTrue_and_nil e
  | false => exact e
theorem pw_or1 (ha : PT X a tA) : PW X (.BoolOp .Or [a] pos) tA := by
  intro wh pins s σ H Q I h
  refine isTrue_or (thn (ha pins s σ H Q I h) fun c s1 e => ?_)
  cases c with
  | false => exact isTrue_or_nil e
  | true => exact e
theorem pw_and (ha : PT X a tA) (hb : PW X (.BoolOp .And (b :: rest) pos) tB') : PW X (.BoolOp .And (a :: b :: rest) pos) (tAnd tA tB') := by
  intro wh pins s σ H Q I h
  refine isTrue_and (thn (ha pins s σ H _ I h) fun c s1 ⟨H1, I1, q1⟩ => ?_)
  cases c with
  | true => exact hb wh pins s1 σ H1 Q I1 q1
  | false => exact ⟨H1, I1, q1⟩
theorem pw_or (ha : PT X a tA) (hb : PW X (.BoolOp .Or (b :: rest) pos) tB') : PW X (.BoolOp .Or (a :: b :: rest) pos) (tOr tA tB') := by
  intro wh pins s σ H Q I h
  refine isTrue_or (thn (ha pins s σ H _ I h) fun c s1 ⟨H1, I1, q1⟩ => ?_)
  cases c with
  | true => exact ⟨H1, I1, q1⟩
  | false => exact hb wh pins s1 σ H1 Q I1 q1
theorem pt_not (ha : PT X a tA) : PT X (.UnaryOp .Not a pos) (tNot tA) := by
  intro pins s σ H Q I h
  exact isTrue_not (ha pins s σ H (fun c H1 => Q (!c) H1) I h)
noncomputable def tAndV (ta tb : TE) : TE := fun σ H Q => ta σ H fun x H1 => ∃ c, x = .bl c ∧ if c = true then tb σ H1 Q else Q (.bl false) H1
noncomputable def tNotV (ta : TE) : TE := fun σ H Q => ta σ H fun x H1 => ∃ c, x = .bl c ∧ Q (.bl (!c)) H1
theorem pe_one {op} {t : TE} (h : PE X a t) : PE X (.BoolOp op [a] pos) t := fun pins s σ H Q I hw => BoolOp_one (h pins s σ H Q I hw)
theorem pe_and (ha : PE X a ta) (hb : PE X (.BoolOp .And (b :: rest) pos) tb) : PE X (.BoolOp .And (a :: b :: rest) pos) (tAndV ta tb) := by
  intro pins s σ H Q I h
  refine BoolOp_and (thn (ha pins s σ H _ I h) fun v s1 ⟨x, H1, I1, r1, q1⟩ => ?_)
  obtain ⟨c, rfl, q1⟩ := q1
  cases r1
  refine wpAny_truthy_bool ?_
  cases c with
  | true => exact hb pins s1 σ H1 Q I1 q1
  | false => exact ⟨.bl false, H1, I1, rfl, q1⟩
theorem pe_not (ha : PE X a ta) : PE X (.UnaryOp .Not a pos) (tNotV ta) := by
  intro pins s σ H Q I h
  refine UnaryOp_ (thn (ha pins s σ H _ I h) fun v s1 ⟨x, H1, I1, r1, q1⟩ => ?_)
  obtain ⟨c, rfl, q1⟩ := q1
  cases r1
  exact not_of (wpAny_truthy_bool ⟨.bl (!c), H1, I1, rfl, q1⟩)
end
end L2

namespace L2
open PySem PySem.Spec PyProof.Rows

noncomputable def SqL (K : PySem.W.Frag) (H : Hp) (a : Addr) (xs : List V) : Prop :=
  Rd H a (.lst xs) ∨
    ∃ (o : Obj) (its : Array Value) (n : Nat), K.lookup a = some o ∧ o.cls = .type "list" ∧ o.dict = none ∧ o.data = .seq its n ∧ its.size ≤ sizeLine ∧ Vals xs its.toList
noncomputable def SqT (K : PySem.W.Frag) (H : Hp) (a : Addr) (xs : List V) : Prop :=
  Rd H a (.tup xs) ∨
    ∃ (o : Obj) (its : Array Value) (n : Nat), K.lookup a = some o ∧ o.cls = .type "tuple" ∧ o.data = .seq its n ∧ its.size ≤ sizeLine ∧ Vals xs its.toList
noncomputable def absV : Value → Option V
  | .none => some .non
  | .bool b => some (.bl b)
  | .int i _ => some (.int i)
  | .str x _ => some (.str x)
  | .bytes b _ => some (.byt b)
  | .float b _ => some (.flt b)
  | .ref a => some (.ref a)
  | .type n => some (.ty n)
  | _ => none
theorem RelV.abs {x : V} {u : Value} (r : RelV x u) : absV u = some x := by
  cases x with
  | non => cases r; rfl
  | bl _ => cases r; rfl
  | int _ => obtain ⟨t, rfl⟩ := r; rfl
  | str _ => obtain ⟨t, rfl⟩ := r; rfl
  | byt _ => obtain ⟨t, rfl⟩ := r; rfl
  | flt _ => obtain ⟨t, rfl⟩ := r; rfl
  | ref _ => cases r; rfl
  | ty _ => cases r; rfl
theorem RelV.inj {x y : V} {u : Value} (r : RelV x u) (q : RelV y u) : x = y := Option.some.inj (r.abs.symm.trans q.abs)
theorem Vals.inj : ∀ {xs ys : List V} {us : List Value}, Vals xs us → Vals ys us → xs = ys
  | _, _, _, .nil, .nil => rfl
  | _, _, _, .cons r t, .cons r' t' => by rw [r.inj r', Vals.inj t t']
section
variable {X : Cx} {pins : List (Addr × Obj)} {σ : St} {H : Hp} {s : Shared} {a : Addr} {xs ys : List V}
theorem Inv.list (I : Inv X pins σ H s) (h : SqL X.K H a xs) : ∃ its : List Value, Vals xs its ∧ PlainL s.heap a its.toArray ∧ xs.length ≤ sizeLine := by
  rcases h with h | ⟨o, its, n, hk, hc, hd, hs, hz, r⟩
  · obtain ⟨z, its, n, r, e⟩ := h.ok I.hok
    exact ⟨its, r, ⟨_, n, e, rfl, rfl, rfl⟩, z⟩
  · refine ⟨its.toList, r, ⟨o, n, I.kIn a o hk, hc, hd, by simpa using hs⟩, ?_⟩
    have e := r.length
    simp only [Array.length_toList] at e
    omega
theorem Inv.tuple (I : Inv X pins σ H s) (h : SqT X.K H a xs) : ∃ its : List Value, Vals xs its ∧ IsTup s.heap a its.toArray ∧ xs.length ≤ sizeLine := by
  rcases h with h | ⟨o, its, n, hk, hc, hs, hz, r⟩
  · obtain ⟨z, its, r, p⟩ := h.ok I.hok
    exact ⟨its, r, p, z⟩
  · refine ⟨its.toList, r, ⟨o, I.kIn a o hk, hc, n, by simpa using hs⟩, ?_⟩
    have e := r.length
    simp only [Array.length_toList] at e
    omega
theorem Inv.list_inj (I : Inv X pins σ H s) (h : SqL X.K H a xs) (h' : SqL X.K H a ys) : xs = ys := by
  obtain ⟨its, r, ⟨o, n, e, _, _, d⟩, _⟩ := I.list h
  obtain ⟨its', r', ⟨o', n', e', _, _, d'⟩, _⟩ := I.list h'
  rw [e] at e'; cases e'
  rw [d] at d'
  injection d' with d1 _
  have : its = its' := by simpa using congrArg Array.toList d1
  subst this
  exact r.inj r'
theorem Inv.tuple_inj (I : Inv X pins σ H s) (h : SqT X.K H a xs) (h' : SqT X.K H a ys) : xs = ys := by
  obtain ⟨its, r, ⟨o, e, _, n, d⟩, _⟩ := I.tuple h
  obtain ⟨its', r', ⟨o', e', _, n', d'⟩, _⟩ := I.tuple h'
  rw [e] at e'; cases e'
  rw [d] at d'
  injection d' with d1 _
  have : its = its' := by simpa using congrArg Array.toList d1
  subst this
  exact r.inj r'
end

noncomputable abbrev Cx.wish (X : Cx) (E : Value → Shared → Prop) : Cx := { X with xe := E }
noncomputable abbrev Cx.nox (X : Cx) : Cx := X.wish fun _ _ => False
theorem Cx.Ok.wish {X : Cx} (ok : X.Ok) (E : Value → Shared → Prop) : (X.wish E).Ok :=
  ⟨ok.mod, ok.kind, ok.glob, ok.blt, ok.above, ok.inj, ok.has, ok.cab, ok.hd, ok.frames, ok.stk, ok.exf, ok.bs, ok.bsz, ok.noex, ok.exfs, ok.funs, ok.frf⟩
theorem Cx.Ok.unwish {X : Cx} {E : Value → Shared → Prop} (ok : (X.wish E).Ok) : X.Ok :=
  ⟨ok.mod, ok.kind, ok.glob, ok.blt, ok.above, ok.inj, ok.has, ok.cab, ok.hd, ok.frames, ok.stk, ok.exf, ok.bs, ok.bsz, ok.noex, ok.exfs, ok.funs, ok.frf⟩
section
variable {X : Cx} {pins : List (Addr × Obj)} {σ : St} {H : Hp} {s : Shared} {E : Value → Shared → Prop}
theorem Inv.wish (I : Inv X pins σ H s) (E : Value → Shared → Prop) : Inv (X.wish E) pins σ H s := ⟨I.ok.wish E, I.os, I.bare, I.base, I.loc, I.cell, I.free, I.freeC, I.pin, I.hok, I.len⟩
theorem Inv.unwish (I : Inv (X.wish E) pins σ H s) : Inv X pins σ H s := ⟨I.ok.unwish, I.os, I.bare, I.base, I.loc, I.cell, I.free, I.freeC, I.pin, I.hok, I.len⟩
theorem SP.unwish {D : Ends} {f : Flow} {s' : Shared} (h : SP (X.wish E) pins D f s') : SP X pins D f s' := by
  cases f with
  | next => obtain ⟨σ', H', I, q⟩ := h; exact ⟨σ', H', I.unwish, q⟩
  | brk => obtain ⟨σ', H', I, q⟩ := h; exact ⟨σ', H', I.unwish, q⟩
  | cont => obtain ⟨σ', H', I, q⟩ := h; exact ⟨σ', H', I.unwish, q⟩
  | ret u => obtain ⟨v, σ', H', I, r, q⟩ := h; exact ⟨v, σ', H', I.unwish, r, q⟩
theorem PSs.nox {st : List Stmt} {t : TS} (h : PSs X.nox st t) : PSs X st t := fun pins s σ H D I hw =>
  wpAny_mono (h pins s σ H D (I.wish _) hw) (fun _ _ q => q.unwish) fun _ _ z => False.elim z
end

section
variable {X : Cx} {st : Stmt} {rest : List Stmt} {t u : TS} {e : Expr} {te : TE} {pos : Pos}
noncomputable def tNext : TS := fun D σ H => D.nx σ H
noncomputable def tSeq (t u : TS) : TS := fun D σ H => t { D with nx := u D } σ H
theorem pss_nil : PSs X [] tNext := fun _ _ σ H _ I h => wpAny_execs_nil ⟨σ, H, I, h⟩
theorem pss_cons (h1 : PS X st t) (h2 : PSs X rest u) : PSs X (st :: rest) (tSeq t u) := by
  intro pins s σ H D I h
  refine wpAny_execs_cons (thn (h1 pins s σ H { D with nx := u D } I h) fun f s1 q => ?_)
  cases f with
  | next =>
    obtain ⟨σ', H', I', q⟩ := q
    exact h2 pins s1 σ' H' D I' q
  | ret v => exact q
  | brk => exact q
  | cont => exact q
theorem pss_one (h1 : PS X st t) : PSs X [st] t := by
  intro pins s σ H D I h
  refine wpAny_execs_cons (thn (h1 pins s σ H D I h) fun f s1 q => ?_)
  cases f with
  | next => exact wpAny_execs_nil q
  | ret v => exact q
  | brk => exact q
  | cont => exact q
theorem Inv.quiet {pins : List (Addr × Obj)} {σ : St} {H : Hp} {s : Shared} (I : Inv X pins σ H s) : interactive X.env = false := by simp [interactive, I.ok.kind]
noncomputable def tDrop (te : TE) : TS := fun D σ H => te σ H fun _ H1 => D.nx σ H1
theorem ps_expr (he : PE X e te) (hs : swapsWith e none pos.line X.env = pure false := by rfl) : PS X (.Expr e pos) (tDrop te) := by
  intro pins s σ H D I h
  exact wpAny_Expr_any (thn (he pins s σ H _ I h) fun v s1 ⟨x, H1, I1, r1, q1⟩ => ⟨σ, H1, I1, q1⟩) I.quiet hs
noncomputable def tRet (te : TE) : TS := fun D σ H => te σ H D.rt
theorem ps_ret (he : PE X e te) : PS X (.Return (some e) pos) (tRet te) := by
  intro pins s σ H D I h
  exact wpAny_Return_some (thn (he pins s σ H _ I h) fun v s1 ⟨x, H1, I1, r1, q1⟩ => ⟨x, σ, H1, I1, r1, q1⟩)
noncomputable def tIfS (c : TT) (t u : TS) : TS := fun D σ H => c σ H fun b H1 => if b = true then t D σ H1 else u D σ H1
theorem ps_if {c : Expr} {a b : List Stmt} {tc : TT} (hc : PT X c tc) (ha : PSs X a t) (hb : PSs X b u) : PS X (.If c a b pos) (tIfS tc t u) := by
  intro pins s σ H D I h
  refine wpAny_If (thn (hc pins s σ H _ I h) fun d s1 ⟨H1, I1, q1⟩ => ?_)
  cases d with
  | true => exact ha pins s1 σ H1 D I1 q1
  | false => exact hb pins s1 σ H1 D I1 q1
end

noncomputable abbrev TG := V → St → Hp → (St → Hp → Prop) → Prop
noncomputable abbrev TGs := List V → St → Hp → (St → Hp → Prop) → Prop
noncomputable def PG (X : Cx) (target : Expr) (t : TG) : Prop :=
  ∀ (pins : List (Addr × Obj)) (s : Shared) (σ : St) (H : Hp) (v : V) (u : Value) (Q : St → Hp → Prop), Inv X pins σ H s → RelV v u → t v σ H Q →
    wpAny (model X.prog X.w) X.A (assign target X.env u) (fun _ s' => ∃ σ' H', Inv X pins σ' H' s' ∧ Q σ' H') X.xe s
noncomputable def PGs (X : Cx) (ts : List Expr) (t : TGs) : Prop :=
  ∀ (pins : List (Addr × Obj)) (s : Shared) (σ : St) (H : Hp) (vs : List V) (us : List Value) (Q : St → Hp → Prop), Inv X pins σ H s → Vals vs us → t vs σ H Q →
    wpAny (model X.prog X.w) X.A (assignInOrder ((assignEach ts X.env).map (·.2)) us) (fun _ s' => ∃ σ' H', Inv X pins σ' H' s' ∧ Q σ' H') X.xe s
section
variable {X : Cx} {pos : Pos}
noncomputable def gName (i : Nat) : TG := fun v σ H Q => Q (σ.set i (some v)) H
theorem pg_name {i : Nat} {x : Str} (hN : X.N.Nodup) (hi : X.N[i]? = some x) (hx : Loc X.env.scope x) (hf : X.fn x = true ∨ X.env.scope.names.lookup x = some .local := by first | exact .inl rfl | exact .inr rfl | assumption) : PG X (.Name x pos) (gName i) := by
  intro pins s σ H v u Q I r h
  exact wpAny_assign_Name (store_ok I hN hi hx r (fun s' I' => ⟨_, H, I', h⟩) hf)
noncomputable def gNil : TGs := fun vs σ H Q => vs = [] ∧ Q σ H
noncomputable def gCons (t : TG) (u : TGs) : TGs := fun vs σ H Q => ∃ v r, vs = v :: r ∧ t v σ H fun σ' H' => u r σ' H' Q
theorem pgs_nil : PGs X [] gNil := by
  intro pins s σ H vs us Q I r h
  obtain ⟨e, h⟩ := h
  subst e
  cases r
  exact assignInOrder_nil ⟨σ, H, I, h⟩
theorem pgs_cons {e : Expr} {es : List Expr} {t : TG} {u : TGs} (h1 : PG X e t) (h2 : PGs X es u)
    (hs : (assignEach (e :: es) X.env).map (·.2) = assign e X.env :: (assignEach es X.env).map (·.2) := by rfl) : PGs X (e :: es) (gCons t u) := by
  intro pins s σ H vs us Q I r h
  obtain ⟨v, vr, e1, h⟩ := h
  subst e1
  cases r with
  | cons r rr =>
    rw [hs]
    refine assignInOrder_cons (thn (h1 pins s σ H _ _ _ I r h) fun _ s1 ⟨σ1, H1, I1, q1⟩ => ?_)
    exact h2 pins s1 σ1 H1 _ _ Q I1 rr q1
noncomputable def gTup (K : PySem.W.Frag) (n : Nat) (t : TGs) : TG := fun v σ H Q => ∃ a xs, v = .ref a ∧ SqT K H a xs ∧ xs.length = n ∧ t xs σ H Q
theorem pg_tup {es : List Expr} {k : Nat} {t : TGs} {n : Nat} (hc : X.calm = true) (h : PGs X es t)
    (hn : (assignEach es X.env).length = n := by rfl) (hst : (assignEach es X.env).findIdx? (·.1) = none := by rfl) : PG X (.Tuple es k pos) (gTup X.K n t) := by
  intro pins s σ H v u Q I r hw
  obtain ⟨a, xs, e1, hq, hl, hw⟩ := hw
  subst e1
  cases r
  obtain ⟨its, rv, ht, hz⟩ := I.tuple hq
  refine assign_Tuple_tuple (I.ok.hd hc) ht (by simp [hn, ← hl, rv.length]) hst fun h' hx => ?_
  have I1 : Inv X pins σ H { s with heap := h' } := I.kept (t' := s.toks) fun b o e => hx b o (Nat.ne_of_lt (Heap.lt_size e)) e
  exact h pins _ σ H xs _ Q I1 (by simpa using rv) hw
noncomputable def tAsg (te : TE) (g : TG) : TS := fun D σ H => te σ H fun x H1 => g x σ H1 D.nx
theorem ps_asg {tg e : Expr} {te : TE} {g : TG} (he : PE X e te) (hg : PG X tg g) (hs : swapsWithSole [tg] e pos.line X.env = pure false := by rfl) (hw : swappedStores [tg] e X.env = pure none := by rfl)
    (h1 : (assignEach [tg] X.env).map (·.2) = [assign tg X.env] := by rfl) : PS X (.Assign [tg] e pos) (tAsg te g) := by
  intro pins s σ H D I h
  refine wpAny_Assign_stores (thn (he pins s σ H _ I h) fun v s1 ⟨x, H1, I1, r1, q1⟩ => ?_) hs hw
  rw [h1]
  exact thn (hg pins s1 σ H1 x v _ I1 r1 q1) fun _ s2 q => q
theorem ps_set {i : Nat} {x : Str} {e : Expr} {te : TE} {pos' : Pos} (hN : X.N.Nodup) (hi : X.N[i]? = some x) (hx : Loc X.env.scope x) (he : PE X e te) (hs : swapsWith e (some (.Name x pos')) pos.line X.env = pure false := by rfl) (hf : X.fn x = true ∨ X.env.scope.names.lookup x = some .local := by first | exact .inl rfl | exact .inr rfl | assumption) :
    PS X (.Assign [.Name x pos'] e pos) (tAsg te (gName i)) := by
  intro pins s σ H D I h
  refine wpAny_Assign_Name (thn (he pins s σ H _ I h) fun v s1 ⟨y, H1, I1, r1, q1⟩ => ?_) hs
  exact store_ok I1 hN hi hx r1 (fun s2 I2 => ⟨_, H1, I2, q1⟩) hf
end

section
variable {X : Cx} {pos : Pos}
end

structure It where
  go : Nat → Hp → Prop
  yld : Nat → Hp → V → Hp → Prop
  stop : Nat → Hp → Prop
noncomputable def FpOk (X : Cx) (pins : List (Addr × Obj)) (H : Hp) (b : Addr) : Prop :=
  H b = none ∧ b ≠ X.env.locals ∧ b ∉ X.fs ∧ (b ∈ X.ex ∨ X.s₀.heap.objs.size ≤ b) ∧ (∀ x c, X.env.cells.lookup x = some c → c ≠ b) ∧ ∀ p ∈ X.pn ++ pins, p.1 ≠ b
theorem Inv.fpOk {X : Cx} {pins : List (Addr × Obj)} {σ : St} {H H' : Hp} {s : Shared} {b : Addr} (I : Inv X pins σ H s) (hb : s.heap.objs.size ≤ b) (hn : H' b = none) : FpOk X pins H' b := by
  refine ⟨hn, Nat.ne_of_gt (Nat.lt_of_lt_of_le I.lt hb), I.nofs hb, .inr (Nat.le_trans I.sz hb), fun x c e z => ?_, fun p hp z => ?_⟩
  · obtain ⟨v, q⟩ := I.cell x c e
    exact absurd (Nat.lt_of_lt_of_le q.lt (by rw [z]; exact hb)) (Nat.lt_irrefl _)
  · exact absurd (Nat.lt_of_lt_of_le (Heap.lt_size (I.pin p hp).1) (by rw [z]; exact hb)) (Nat.lt_irrefl _)
structure Turn (P : Program) (w : World) (K : PySem.W.Frag) (tg : Expr) (J : It) (fp : List Addr) (it : Addr) (tn : Nat → Heap → Prop) : Prop where
  mem : it ∈ fp
  obj : ∀ i h, tn i h → ∀ b ∈ fp, ∃ o, h.get? b = some o ∧ ∀ v, o.data ≠ .cell v
  keep : ∀ i h h', tn i h → (∀ b ∈ fp, ∀ o, h.get? b = some o → h'.get? b = some o) → tn i h'
  item : ∀ (X : Cx), X.prog = P → X.w = w → X.K = K → X.calm = true → ∀ (i : Nat) (pins : List (Addr × Obj)) (s : Shared) (σ : St) (H : Hp) (E : Value → Shared → Prop), Inv X pins σ H s → (∀ b ∈ fp, FpOk X pins H b) → tn i s.heap → J.go i H →
    wpAny (model P w) X.A (pyNext (.ref it)) (fun r s1 => ∃ u, r = some u ∧
      wpAny (model P w) X.A (letOwnedTupleGo tg (.ref it) u) (fun _ s2 => ∃ x H', Inv X pins σ H' s2 ∧ RelV x u ∧ J.yld i H x H' ∧ tn (i + 1) s2.heap ∧ ∀ b ∈ fp, H' b = none) E s1) E s
  done : ∀ (X : Cx), X.prog = P → X.w = w → X.K = K → X.calm = true → ∀ (i : Nat) (pins : List (Addr × Obj)) (s : Shared) (σ : St) (H : Hp) (E : Value → Shared → Prop), Inv X pins σ H s → (∀ b ∈ fp, FpOk X pins H b) → tn i s.heap → J.stop i H →
    wpAny (model P w) X.A (pyNext (.ref it)) (fun r s1 => r = none ∧ Inv X pins σ H s1) E s
  self : ∀ (A : Around) (i : Nat) (s : Shared) (Q : Value → Shared → Prop) (E : Value → Shared → Prop), tn i s.heap → Q (.ref it) s → wpAny (model P w) A (pyIter (.ref it)) Q E s
noncomputable abbrev TI := St → Hp → (It → Hp → Prop) → Prop
noncomputable def PIE (X : Cx) (pins : List (Addr × Obj)) (σ : St) (tg : Expr) (R : It → Hp → Prop) (itv : Value) (s2 : Shared) : Prop :=
  ∃ (it : Addr) (fp : List Addr) (tn : Nat → Heap → Prop) (J : It) (H' : Hp), itv = .ref it ∧ Inv X pins σ H' s2 ∧ Turn X.prog X.w X.K tg J fp it tn ∧ tn 0 s2.heap ∧ (∀ b ∈ fp, FpOk X pins H' b) ∧ R J H'
noncomputable def PI (X : Cx) (tg iter : Expr) (wi : TI) : Prop :=
  ∀ (pins : List (Addr × Obj)) (s : Shared) (σ : St) (H : Hp) (R : It → Hp → Prop), Inv X pins σ H s → wi σ H R →
    wpAny (model X.prog X.w) X.A (eval iter X.env) (fun v s1 => wpAny (model X.prog X.w) X.A (pyIter v) (PIE X pins σ tg R) X.xe s1) X.xe s

theorem go_of {M : Model} {A : Around} {E : Value → Shared → Prop} {s : Shared} {tg : Expr} {it : Addr} {u : Value} {o : Obj} {n : String} {vs : Array Value} {Q : Unit → Shared → Prop} (ho : s.heap.get? it = some o) (hc : o.cls = .type n) (hd : o.data = .fields vs)
    (hn : ["enumerate", "zip", "dict_itemiterator", "dict_reverseitemiterator", "odict_iterator", "itertools.zip_longest", "itertools.pairwise"].contains n = false) (hQ : Q () s) : wpAny M A (letOwnedTupleGo tg (.ref it) u) Q E s := by
  unfold letOwnedTupleGo
  cases tg <;> first
    | exact wpAny_pure hQ
    | (cases u <;> first
        | exact wpAny_pure hQ
        | (refine wpAny_bind (wpAny_load ho ?_)
           rw [hc, hd]
           show wpAny M A (if (["enumerate", "zip", "dict_itemiterator", "dict_reverseitemiterator", "odict_iterator", "itertools.zip_longest", "itertools.pairwise"].contains n && vs[0]? == some (rawInt _)) = true then _ else _) Q E s
           rw [if_neg (by intro h; rw [hn, Bool.false_and] at h; cases h)]
           exact wpAny_pure hQ))

noncomputable def Itl (K : PySem.W.Frag) (a : Addr) : It :=
  ⟨fun i H => ∃ xs x, SqL K H a xs ∧ xs[i]? = some x, fun i H x H' => H' = H ∧ ∀ xs, SqL K H a xs → xs[i]? = some x, fun i H => ∃ xs, SqL K H a xs ∧ xs.length ≤ i⟩
noncomputable def Itt (K : PySem.W.Frag) (a : Addr) : It :=
  ⟨fun i H => ∃ xs x, SqT K H a xs ∧ xs[i]? = some x, fun i H x H' => H' = H ∧ ∀ xs, SqT K H a xs → xs[i]? = some x, fun i H => ∃ xs, SqT K H a xs ∧ xs.length ≤ i⟩
noncomputable def Itr (lo : Int) (n : Nat) : It := ⟨fun i _ => i < n, fun i H x H' => H' = H ∧ x = .int (lo + i), fun i _ => n ≤ i⟩
theorem turn_list {P : Program} {w : World} {K : PySem.W.Frag} {tg : Expr} (a it : Addr) : Turn P w K tg (Itl K a) [it] it (fun i h => h.IsListIter it a i) where
  mem := by simp
  obj := fun i h st b hb => by
    have e : b = it := by simpa using hb
    subst e
    obtain ⟨o, e, c, d⟩ := st
    exact ⟨o, e, fun v z => by rw [d] at z; cases z⟩
  keep := fun i h h' st k => st.at fun o e => k it (by simp) o e
  item := by
    intro X hP hw hK hc i pins s σ H E I hf st hg
    subst hP hw hK
    obtain ⟨xs, x, hq, hx⟩ := hg
    obtain ⟨its, rv, p, hz⟩ := I.list hq
    obtain ⟨u, hu, ru⟩ := rv.get hx
    obtain ⟨f0, f1, f2, f3, f4, f5⟩ := hf it (by simp)
    refine wpAny_pyNext_list_item st p.isList (x := u) (by simpa using hu) fun h' st' sb => ?_
    have I1 : Inv X pins σ H { s with heap := h' } := I.turned (t' := s.toks) (fun b o hb e => (sb.2 b hb).trans e) f0 f1 f3 f4 f5
    obtain ⟨o, e, c, d⟩ := id st'
    exact ⟨u, rfl, go_of (s := { s with heap := h' }) e c d (by decide) ⟨x, H, I1, ru, ⟨rfl, fun ys hy => by rw [I.list_inj hy hq]; exact hx⟩, st', fun b hb => (hf b hb).1⟩⟩
  done := by
    intro X hP hw hK hc i pins s σ H E I hf st hg
    subst hP hw hK
    obtain ⟨xs, hq, hx⟩ := hg
    obtain ⟨its, rv, p, hz⟩ := I.list hq
    obtain ⟨f0, f1, f2, f3, f4, f5⟩ := hf it (by simp)
    have hl := rv.length
    exact wpAny_pyNext_list_end (I.ok.hd hc) st p.isList (by simp; omega) fun h' eb => ⟨rfl, I.turned (t' := s.toks) (fun b o hb e => eb b o hb e) f0 f1 f3 f4 f5⟩
  self := fun _ _ _ _ _ st h => wpAny_pyIter_listiter st h
theorem turn_tuple {P : Program} {w : World} {K : PySem.W.Frag} {tg : Expr} (a it : Addr) : Turn P w K tg (Itt K a) [it] it (fun i h => h.IsTupleIter it a i) where
  mem := by simp
  obj := fun i h st b hb => by
    have e : b = it := by simpa using hb
    subst e
    obtain ⟨o, e, c, d⟩ := st
    exact ⟨o, e, fun v z => by rw [d] at z; cases z⟩
  keep := fun i h h' st k => st.at fun o e => k it (by simp) o e
  item := by
    intro X hP hw hK hc i pins s σ H E I hf st hg
    subst hP hw hK
    obtain ⟨xs, x, hq, hx⟩ := hg
    obtain ⟨its, rv, p, hz⟩ := I.tuple hq
    obtain ⟨u, hu, ru⟩ := rv.get hx
    obtain ⟨f0, f1, f2, f3, f4, f5⟩ := hf it (by simp)
    refine wpAny_pyNext_tuple_item st (show s.heap.IsTuple a its.toArray from p) (x := u) (by simpa using hu) fun h' st' sb => ?_
    have I1 : Inv X pins σ H { s with heap := h' } := I.turned (t' := s.toks) (fun b o hb e => (sb.2 b hb).trans e) f0 f1 f3 f4 f5
    obtain ⟨o, e, c, d⟩ := id st'
    exact ⟨u, rfl, go_of (s := { s with heap := h' }) e c d (by decide) ⟨x, H, I1, ru, ⟨rfl, fun ys hy => by rw [I.tuple_inj hy hq]; exact hx⟩, st', fun b hb => (hf b hb).1⟩⟩
  done := by
    intro X hP hw hK hc i pins s σ H E I hf st hg
    subst hP hw hK
    obtain ⟨xs, hq, hx⟩ := hg
    obtain ⟨its, rv, p, hz⟩ := I.tuple hq
    obtain ⟨f0, f1, f2, f3, f4, f5⟩ := hf it (by simp)
    have hl := rv.length
    exact wpAny_pyNext_tuple_end (I.ok.hd hc) st (show s.heap.IsTuple a its.toArray from p) (by simp; omega) fun h' eb => ⟨rfl, I.turned (t' := s.toks) (fun b o hb e => eb b o hb e) f0 f1 f3 f4 f5⟩
  self := fun _ _ _ _ _ st h => wpAny_pyIter_tupleiter st h
theorem turn_range {P : Program} {w : World} {K : PySem.W.Frag} {tg : Expr} (it : Addr) (lo : Int) (n : Nat) : Turn P w K tg (Itr lo n) [it] it (fun i h => IsRangeIter h it (lo + (i : Nat) * 1) ((n : Int) - (i : Nat)) 1) where
  mem := by simp
  obj := fun i h st b hb => by
    have e : b = it := by simpa using hb
    subst e
    exact ⟨_, st, fun v z => by
      have z' : Data.fields _ = Data.cell v := z
      cases z'⟩
  keep := fun i h h' st k => k it (by simp) _ st
  item := by
    intro X hP hw hK hc i pins s σ H E I hf st hg
    subst hP hw hK
    obtain ⟨f0, f1, f2, f3, f4, f5⟩ := hf it (by simp)
    have W := Walks.range (prog := X.prog) (w := X.w) (I.ok.hd hc) it lo 1 n
    refine W.item i s _ _ hg st fun v h' tk hv st' kk => ?_
    obtain ⟨t, rfl⟩ := hv
    have I1 : Inv X pins σ H { s with heap := h', toks := tk } := I.turned (fun b o hb e => kk b o (by simpa using hb) e) f0 f1 f3 f4 f5
    refine ⟨_, rfl, go_of (s := { s with heap := h', toks := tk }) (n := "range_iterator") st' rfl rfl (by decide) ⟨.int (lo + i), H, I1, ⟨t, ?_⟩, ⟨rfl, rfl⟩, st', fun b hb => (hf b hb).1⟩⟩
    rw [Int.mul_one]
  done := by
    intro X hP hw hK hc i pins s σ H E I hf st hg
    subst hP hw hK
    obtain ⟨f0, f1, f2, f3, f4, f5⟩ := hf it (by simp)
    exact wpAny_pyNext_range_end (I.ok.hd hc) st (by have : n ≤ i := hg; omega) fun h' eb => ⟨rfl, I.turned (t' := s.toks) (fun b o hb e => eb b o hb e) f0 f1 f3 f4 f5⟩
  self := fun _ _ _ _ _ st h => wpAny_pyIter_rangeiter st h
end L2

namespace L2
open PySem PySem.Spec PyProof.Rows
section
variable {X : Cx} {tg : Expr}
noncomputable def iList (K : PySem.W.Frag) (tl : TE) : TI := fun σ H R => tl σ H fun x H1 => ∃ a, x = .ref a ∧ (∃ xs, SqL K H1 a xs) ∧ R (Itl K a) H1
noncomputable def iTup (K : PySem.W.Frag) (tl : TE) : TI := fun σ H R => tl σ H fun x H1 => ∃ a, x = .ref a ∧ (∃ xs, SqT K H1 a xs) ∧ R (Itt K a) H1
theorem pi_list {l : Expr} {tl : TE} (hl : PE X l tl) : PI X tg l (iList X.K tl) := by
  intro pins s σ H R I h
  refine thn (hl pins s σ H _ I h) fun v s1 ⟨x, H1, I1, r1, q1⟩ => ?_
  obtain ⟨a, e, ⟨xs, hq⟩, q⟩ := q1
  subst e
  cases r1
  obtain ⟨its, rv, p, hz⟩ := I1.list hq
  refine wpAny_pyIter_list p.isList ?_
  refine ⟨s1.heap.objs.size, [s1.heap.objs.size], _, _, H1, rfl, I1.kept (t' := s1.toks) fun b o e => Heap.get?_push_of_some _ e, turn_list a _, ⟨_, Heap.get?_push_size _ rfl, rfl, rfl⟩, fun b hb => ?_, q⟩
  have e : b = s1.heap.objs.size := by simpa using hb
  subst e
  exact I1.fpOk (Nat.le_refl _) (I1.hok.fresh (Nat.le_refl _))
theorem pi_tup {l : Expr} {tl : TE} (hl : PE X l tl) : PI X tg l (iTup X.K tl) := by
  intro pins s σ H R I h
  refine thn (hl pins s σ H _ I h) fun v s1 ⟨x, H1, I1, r1, q1⟩ => ?_
  obtain ⟨a, e, ⟨xs, hq⟩, q⟩ := q1
  subst e
  cases r1
  obtain ⟨its, rv, p, hz⟩ := I1.tuple hq
  refine wpAny_pyIter_tuple (show s1.heap.IsTuple a its.toArray from p) ?_
  refine ⟨s1.heap.objs.size, [s1.heap.objs.size], _, _, H1, rfl, I1.kept (t' := s1.toks) fun b o e => Heap.get?_push_of_some _ e, turn_tuple a _, ⟨_, Heap.get?_push_size _ rfl, rfl, rfl⟩, fun b hb => ?_, q⟩
  have e : b = s1.heap.objs.size := by simpa using hb
  subst e
  exact I1.fpOk (Nat.le_refl _) (I1.hok.fresh (Nat.le_refl _))
theorem range_it {pins : List (Addr × Obj)} {σ : St} {H : Hp} {s : Shared} {R : It → Hp → Prop} {E : Value → Shared → Prop} {lo hi : Int} {t u v : Tok} {tk : Nat} (I : Inv X pins σ H s) (h1 : -(2 ^ 62) ≤ lo) (h2 : lo < 2 ^ 62) (h3 : -(2 ^ 62) ≤ hi) (h4 : hi < 2 ^ 62)
    (q : R (Itr lo (hi - lo).toNat) H) : wpAny (model X.prog X.w) X.A (pyIter (.ref s.heap.objs.size)) (PIE X pins σ tg R) E { s with heap := s.heap.push { cls := .type "range", data := .fields #[.int lo t, .int hi u, .int 1 v] }, toks := tk } := by
  refine wpAny_pyIter_range (IsRange.new ..) (small_one h1 h2 h3 h4) ?_
  have I1 : Inv X pins σ H { s with heap := s.heap.push { cls := .type "range", data := .fields #[.int lo t, .int hi u, .int 1 v] }, toks := tk } := I.kept fun b o e => Heap.get?_push_of_some _ e
  refine ⟨(s.heap.push { cls := .type "range", data := .fields #[.int lo t, .int hi u, .int 1 v] }).objs.size, [(s.heap.push { cls := .type "range", data := .fields #[.int lo t, .int hi u, .int 1 v] }).objs.size], _, _, H, rfl,
    I1.kept (t' := tk) fun b o e => Heap.get?_push_of_some _ e, turn_range _ lo (hi - lo).toNat, ?_, fun b hb => ?_, q⟩
  · have e1 : lo + ((0 : Nat) : Int) * 1 = lo := by simp
    have e2 : (((hi - lo).toNat : Nat) : Int) - ((0 : Nat) : Int) = Builtin.Range.rangeSize lo hi 1 := by rw [rangeSize_one]; split <;> omega
    show IsRangeIter _ _ (lo + ((0 : Nat) : Int) * 1) ((((hi - lo).toNat : Nat) : Int) - ((0 : Nat) : Int)) 1
    rw [e1, e2]
    exact Heap.get?_push_size _ rfl
  · have e : b = (s.heap.push { cls := .type "range", data := .fields #[.int lo t, .int hi u, .int 1 v] }).objs.size := by simpa using hb
    subst e
    exact I1.fpOk (Nat.le_refl _) (I1.hok.fresh (Nat.le_refl _))
noncomputable def iRng1 (ta : TA) : TI := fun σ H R => ta σ H fun vs H1 => ∃ j : Int, vs = [.int j] ∧ -(2 ^ 62) ≤ j ∧ j < 2 ^ 62 ∧ R (Itr 0 j.toNat) H1
theorem pi_range1 {a : Expr} {ta : TA} {p pos : Pos} (hg : Gl X "range") (hm : X.mg "range" = none) (ha : PA X [a] ta) (hs : starEach [a] X.env = [(false, eval a X.env)] := by rfl) : PI X tg (.Call (.Name "range" p) [a] [] pos) (iRng1 ta) := by
  intro pins s σ H R I h
  refine Call_ (ld_blt I hg hm boot_range (PyProof.Rows.callWith_type1 (thn (ha pos pins s σ H _ I h) fun us s1 ⟨vs, H1, I1, r1, q1⟩ => ?_) hs rfl))
  obtain ⟨j, e, q1, q2, q⟩ := q1
  subst e
  cases r1 with
  | cons r rr =>
    cases rr
    obtain ⟨t, rfl⟩ := r
    exact call_range_1 (range_it I1 (by omega) (by omega) q1 q2 (by simpa using q))
noncomputable def tFor (wi : TI) (g : TG) (tb : TS) : TS := fun D σ H => wi σ H fun J H1 => ∃ W : Nat → Nat → St → Hp → Prop, (∃ m, W 0 m σ H1) ∧ ∀ i m σ H, W i m σ H →
  (J.stop i H ∧ D.nx σ H) ∨ (J.go i H ∧ ∃ N : St → Hp → Prop, (∀ σ' H', N σ' H' → ∃ m', m' < m ∧ W (i + 1) m' σ' H') ∧ ∀ x H', J.yld i H x H' → g x σ H' fun σ2 H2 => tb { D with nx := N, ct := N, bk := D.nx } σ2 H2)
noncomputable def pinsAt (fp : List Addr) (h : Heap) : List (Addr × Obj) := fp.filterMap fun b => (h.get? b).map fun o => (b, o)
theorem mem_pinsAt {fp : List Addr} {h : Heap} {b : Addr} {o : Obj} (hb : b ∈ fp) (e : h.get? b = some o) : (b, o) ∈ pinsAt fp h := List.mem_filterMap.mpr ⟨b, hb, by rw [e]; rfl⟩
theorem of_pinsAt {fp : List Addr} {h : Heap} {p : Addr × Obj} (hp : p ∈ pinsAt fp h) : p.1 ∈ fp ∧ h.get? p.1 = some p.2 := by
  obtain ⟨b, hb, e⟩ := List.mem_filterMap.mp hp
  cases q : h.get? b with
  | none => rw [q] at e; cases e
  | some o =>
    rw [q] at e
    have e' : (b, o) = p := Option.some.inj e
    subst e'
    exact ⟨hb, q⟩
theorem Inv.pinned {pins : List (Addr × Obj)} {σ : St} {H : Hp} {s : Shared} {fp : List Addr} (I : Inv X pins σ H s) (hf : ∀ b ∈ fp, FpOk X pins H b) (ho : ∀ b ∈ fp, ∃ o, s.heap.get? b = some o ∧ ∀ v, o.data ≠ .cell v) : Inv X (pins ++ pinsAt fp s.heap) σ H s :=
  I.pins_of fun p hp => (List.mem_append.mp hp).elim (fun z => I.pin p (List.mem_append_right _ z)) fun z => by
    obtain ⟨hb, e⟩ := of_pinsAt z
    obtain ⟨f0, f1, f2, _⟩ := hf p.1 hb
    obtain ⟨o, e', d⟩ := ho p.1 hb
    rw [e] at e'; cases e'
    exact ⟨e, f0, f1, f2, d⟩
theorem Inv.unpinned {pins pl : List (Addr × Obj)} {σ : St} {H : Hp} {s : Shared} (I : Inv X (pins ++ pl) σ H s) : Inv X pins σ H s := I.pins_of fun p hp => I.pin p (List.mem_append_right _ (List.mem_append_left _ hp))
theorem ps_for {iter : Expr} {body : List Stmt} {wi : TI} {g : TG} {tb : TS} {pos : Pos} (hp : PassesOwn (model X.prog X.w) X.A X.env X.xe) (hc : X.calm = true) (hi : PI X tg iter wi) (hg : PG X tg g) (hb : PSs X body tb)
    (hs : ∀ x, foldedSetIterable iter X.env x = pure x := by intro _; rfl) : PS X (.For tg iter body [] pos) (tFor wi g tb) := by
  intro pins s σ H D I h
  refine wpAny_For (thn (hi pins s σ H _ I h) fun v s1 h1 => thn h1 fun itv s2 h2 => ?_) hs
  obtain ⟨it, fp, tn, J, H2, e, I2, T, st2, f2, W, ⟨m0, w0⟩, turn⟩ := h2
  subst e
  have stat : ∀ {H' : Hp}, (∀ b ∈ fp, H' b = none) → ∀ b ∈ fp, FpOk X pins H' b := fun hn b hb => ⟨hn b hb, (f2 b hb).2⟩
  refine codeAny_forLoop_any (fun n s' => ∃ i σ' H', Inv X pins σ' H' s' ∧ tn i s'.heap ∧ (∀ b ∈ fp, H' b = none) ∧ W i n σ' H') ?_ m0 ⟨0, σ, H2, I2, st2, fun b hb => (f2 b hb).1, w0⟩
  rintro n s3 ⟨i, σ3, H3, I3, st3, fr3, w3⟩
  rcases turn i n σ3 H3 w3 with ⟨stop, qn⟩ | ⟨go, N, hN, step⟩
  · refine wpAny_passesOwn hp (thn (T.done X rfl rfl rfl hc i pins s3 σ3 H3 X.xe I3 (stat fr3) st3 stop) fun r s4 ⟨hr, I4⟩ => ?_)
    subst hr
    exact wpAny_execs_nil ⟨σ3, H3, I4, qn⟩
  · refine wpAny_passesOwn hp (thn (T.item X rfl rfl rfl hc i pins s3 σ3 H3 X.xe I3 (stat fr3) st3 go) fun r s4 ⟨u, hr, h4⟩ => ?_)
    subst hr
    refine wpAny_passesOwn hp (thn h4 fun _ s5 ⟨x, H5, I5, r5, y5, st5, fr5⟩ => ?_)
    have I5' := I5.pinned (stat fr5) (T.obj _ _ st5)
    refine wpAny_passesOwn hp (thn (hg _ s5 σ3 H5 x u _ I5' r5 (step x H5 y5)) fun _ s6 ⟨σ6, H6, I6, q6⟩ => ?_)
    refine wpAny_passesOwn hp (thn (hb _ s6 σ6 H6 _ I6 q6) fun f s7 q7 => ?_)
    have again : ∀ {σ7 : St} {H7 : Hp}, Inv X (pins ++ pinsAt fp s5.heap) σ7 H7 s7 → N σ7 H7 → ∃ m, m < n ∧ ∃ i σ' H', Inv X pins σ' H' s7 ∧ tn i s7.heap ∧ (∀ b ∈ fp, H' b = none) ∧ W i m σ' H' := fun {σ7 H7} I7 n7 => by
      obtain ⟨m', hm, w7⟩ := hN σ7 H7 n7
      refine ⟨m', hm, i + 1, σ7, H7, I7.unpinned, T.keep _ _ _ st5 fun b hb o e => (I7.pin (b, o) (List.mem_append_right _ (List.mem_append_right _ (mem_pinsAt hb e)))).1, fun b hb => ?_, w7⟩
      obtain ⟨o, e, d⟩ := T.obj _ _ st5 b hb
      exact (I7.pin (b, o) (List.mem_append_right _ (List.mem_append_right _ (mem_pinsAt hb e)))).2.1
    cases f with
    | next => obtain ⟨σ7, H7, I7, n7⟩ := q7; exact again I7 n7
    | cont => obtain ⟨σ7, H7, I7, n7⟩ := q7; exact again I7 n7
    | brk => obtain ⟨σ7, H7, I7, q7⟩ := q7; exact ⟨σ7, H7, I7.unpinned, q7⟩
    | ret v => obtain ⟨x7, σ7, H7, I7, r7, q7⟩ := q7; exact ⟨x7, σ7, H7, I7.unpinned, r7, q7⟩
end

theorem for_list {K : PySem.W.Frag} {a : Addr} {xs : List V} {g : TG} {tb : TS} {D : Ends} {σ : St} {H : Hp} (Pv : Nat → St → Hp → Prop) (h0 : Pv 0 σ H) (hl : ∀ i σ H, i ≤ xs.length → Pv i σ H → SqL K H a xs)
    (hs : ∀ i x σ H, xs[i]? = some x → Pv i σ H → g x σ H fun σ2 H2 => tb { D with nx := Pv (i + 1), ct := Pv (i + 1), bk := D.nx } σ2 H2) (hd : ∀ σ H, Pv xs.length σ H → D.nx σ H) :
    ∃ W : Nat → Nat → St → Hp → Prop, (∃ m, W 0 m σ H) ∧ ∀ i m σ H, W i m σ H →
      ((Itl K a).stop i H ∧ D.nx σ H) ∨ ((Itl K a).go i H ∧ ∃ N : St → Hp → Prop, (∀ σ' H', N σ' H' → ∃ m', m' < m ∧ W (i + 1) m' σ' H') ∧ ∀ x H', (Itl K a).yld i H x H' → g x σ H' fun σ2 H2 => tb { D with nx := N, ct := N, bk := D.nx } σ2 H2) := by
  refine ⟨fun i m σ H => m = xs.length - i ∧ i ≤ xs.length ∧ Pv i σ H, ⟨xs.length, by simp, Nat.zero_le _, h0⟩, ?_⟩
  rintro i m σ H ⟨rfl, hi, p⟩
  have q := hl i σ H hi p
  by_cases hlt : i < xs.length
  · refine .inr ⟨⟨xs, xs[i], q, by simp [hlt]⟩, Pv (i + 1), fun σ' H' p' => ⟨xs.length - (i + 1), by omega, rfl, hlt, p'⟩, fun x H' y => ?_⟩
    obtain ⟨e, y⟩ := y
    subst e
    exact hs i x σ _ (y xs q) p
  · have e : i = xs.length := by omega
    subst e
    exact .inl ⟨⟨xs, q, Nat.le_refl _⟩, hd σ H p⟩
theorem for_tup {K : PySem.W.Frag} {a : Addr} {xs : List V} {g : TG} {tb : TS} {D : Ends} {σ : St} {H : Hp} (Pv : Nat → St → Hp → Prop) (h0 : Pv 0 σ H) (hl : ∀ i σ H, i ≤ xs.length → Pv i σ H → SqT K H a xs)
    (hs : ∀ i x σ H, xs[i]? = some x → Pv i σ H → g x σ H fun σ2 H2 => tb { D with nx := Pv (i + 1), ct := Pv (i + 1), bk := D.nx } σ2 H2) (hd : ∀ σ H, Pv xs.length σ H → D.nx σ H) :
    ∃ W : Nat → Nat → St → Hp → Prop, (∃ m, W 0 m σ H) ∧ ∀ i m σ H, W i m σ H →
      ((Itt K a).stop i H ∧ D.nx σ H) ∨ ((Itt K a).go i H ∧ ∃ N : St → Hp → Prop, (∀ σ' H', N σ' H' → ∃ m', m' < m ∧ W (i + 1) m' σ' H') ∧ ∀ x H', (Itt K a).yld i H x H' → g x σ H' fun σ2 H2 => tb { D with nx := N, ct := N, bk := D.nx } σ2 H2) := by
  refine ⟨fun i m σ H => m = xs.length - i ∧ i ≤ xs.length ∧ Pv i σ H, ⟨xs.length, by simp, Nat.zero_le _, h0⟩, ?_⟩
  rintro i m σ H ⟨rfl, hi, p⟩
  have q := hl i σ H hi p
  by_cases hlt : i < xs.length
  · refine .inr ⟨⟨xs, xs[i], q, by simp [hlt]⟩, Pv (i + 1), fun σ' H' p' => ⟨xs.length - (i + 1), by omega, rfl, hlt, p'⟩, fun x H' y => ?_⟩
    obtain ⟨e, y⟩ := y
    subst e
    exact hs i x σ _ (y xs q) p
  · have e : i = xs.length := by omega
    subst e
    exact .inl ⟨⟨xs, q, Nat.le_refl _⟩, hd σ H p⟩
theorem for_range {lo : Int} {n : Nat} {g : TG} {tb : TS} {D : Ends} {σ : St} {H : Hp} (Pv : Nat → St → Hp → Prop) (h0 : Pv 0 σ H)
    (hs : ∀ i σ H, i < n → Pv i σ H → g (.int (lo + i)) σ H fun σ2 H2 => tb { D with nx := Pv (i + 1), ct := Pv (i + 1), bk := D.nx } σ2 H2) (hd : ∀ σ H, Pv n σ H → D.nx σ H) :
    ∃ W : Nat → Nat → St → Hp → Prop, (∃ m, W 0 m σ H) ∧ ∀ i m σ H, W i m σ H →
      ((Itr lo n).stop i H ∧ D.nx σ H) ∨ ((Itr lo n).go i H ∧ ∃ N : St → Hp → Prop, (∀ σ' H', N σ' H' → ∃ m', m' < m ∧ W (i + 1) m' σ' H') ∧ ∀ x H', (Itr lo n).yld i H x H' → g x σ H' fun σ2 H2 => tb { D with nx := N, ct := N, bk := D.nx } σ2 H2) := by
  refine ⟨fun i m σ H => m = n - i ∧ i ≤ n ∧ Pv i σ H, ⟨n, by simp, Nat.zero_le _, h0⟩, ?_⟩
  rintro i m σ H ⟨rfl, hi, p⟩
  by_cases hlt : i < n
  · refine .inr ⟨hlt, Pv (i + 1), fun σ' H' p' => ⟨n - (i + 1), by omega, rfl, hlt, p'⟩, fun x H' y => ?_⟩
    obtain ⟨e, y⟩ := y
    subst e y
    exact hs i σ _ hlt p
  · have e : i = n := by omega
    subst e
    exact .inl ⟨Nat.le_refl _, hd σ H p⟩
end L2

namespace L2
open PySem PySem.Spec PyProof.Rows

noncomputable abbrev R2 := V → V → Hp → VK → Prop
noncomputable def OpR (X : Cx) (f : Value → Value → Sem Value) (r : R2) : Prop :=
  ∀ (pins : List (Addr × Obj)) (s : Shared) (σ : St) (H : Hp) (x y : V) (v u : Value) (Q : VK), Inv X pins σ H s → RelV x v → RelV y u → r x y H Q →
    wpAny (model X.prog X.w) X.A (f v u) (EP X pins σ Q) X.xe s
noncomputable def UnR (X : Cx) (f : Value → Sem Value) (r : V → Hp → VK → Prop) : Prop :=
  ∀ (pins : List (Addr × Obj)) (s : Shared) (σ : St) (H : Hp) (x : V) (v : Value) (Q : VK), Inv X pins σ H s → RelV x v → r x H Q →
    wpAny (model X.prog X.w) X.A (f v) (EP X pins σ Q) X.xe s
noncomputable def CallR (X : Cx) (f : Value) (r : List V → Hp → VK → Prop) : Prop :=
  ∀ (pins : List (Addr × Obj)) (s : Shared) (σ : St) (H : Hp) (xs : List V) (us : List Value) (Q : VK), Inv X pins σ H s → Vals xs us → r xs H Q →
    wpAny (model X.prog X.w) X.A (call f us) (EP X pins σ Q) X.xe s
noncomputable def tOp (r : R2) (ta tb : TE) : TE := fun σ H Q => ta σ H fun x H1 => tb σ H1 fun y H2 => r x y H2 Q
noncomputable def tUn (r : V → Hp → VK → Prop) (ta : TE) : TE := fun σ H Q => ta σ H fun x H1 => r x H1 Q
noncomputable def rI (C : Int → Int → Prop) (g : Int → Int → V) : R2 := fun x y H Q => ∃ i j, x = .int i ∧ y = .int j ∧ C i j ∧ Q (g i j) H
noncomputable def rI0 (g : Int → Int → V) : R2 := fun x y H Q => ∃ i j, x = .int i ∧ y = .int j ∧ Q (g i j) H
noncomputable def rU (g : Int → V) : V → Hp → VK → Prop := fun x H Q => ∃ i, x = .int i ∧ Q (g i) H

section
variable {X : Cx} {a b c : Expr} {ta tb tc : TE} {pos : Pos}

theorem binT (ha : PE X a ta) (hb : PE X b tb) {pins : List (Addr × Obj)} {s : Shared} {σ : St} {H : Hp} {R : V → V → Hp → Prop} (I : Inv X pins σ H s)
    (h : ta σ H fun x H1 => tb σ H1 fun y H2 => R x y H2) {Q : Value → Shared → Prop} {f : Value → Value → Sem Value}
    (hf : ∀ v u s2 x y H2, Inv X pins σ H2 s2 → RelV x v → RelV y u → R x y H2 → wpAny (model X.prog X.w) X.A (f v u) Q X.xe s2) :
    wpAny (model X.prog X.w) X.A (eval a X.env) (fun v s₁ => wpAny (model X.prog X.w) X.A (eval b X.env) (fun u s₂ => wpAny (model X.prog X.w) X.A (f v u) Q X.xe s₂) X.xe s₁) X.xe s := by
  refine thn (ha pins s σ H _ I h) fun v s1 ⟨x, H1, I1, r1, q1⟩ => ?_
  refine thn (hb pins s1 σ H1 _ I1 q1) fun u s2 ⟨y, H2, I2, r2, q2⟩ => ?_
  exact hf v u s2 x y H2 I2 r1 r2 q2

theorem pe_op {op : Operator} {r : R2} (ho : OpR X (binaryOp op) r) (ha : PE X a ta) (hb : PE X b tb) : PE X (.BinOp a op b pos) (tOp r ta tb) := by
  intro pins s σ H Q I h
  exact wpAny_BinOp (binT ha hb I h fun v u s2 x y H2 I2 rx ry q => ho pins s2 σ H2 x y v u Q I2 rx ry q)
theorem pe_un {op : UnaryOp} {r : V → Hp → VK → Prop} (ho : UnR X (unaryOp op) r) (ha : PE X a ta) : PE X (.UnaryOp op a pos) (tUn r ta) := by
  intro pins s σ H Q I h
  exact UnaryOp_ (thn (ha pins s σ H _ I h) fun v s1 ⟨x, H1, I1, r1, q1⟩ => ho pins s1 σ H1 x v Q I1 r1 q1)
theorem opI {f : Value → Value → Sem Value} {C : Int → Int → Prop} {g : Int → Int → Int}
    (rule : ∀ (i j : Int) (t u : Tok) (s : Shared) (Q : Value → Shared → Prop) (E : Value → Shared → Prop), C i j → Q (.int (g i j) s.toks) { s with toks := s.toks + 1 } → wpAny (model X.prog X.w) X.A (f (.int i t) (.int j u)) Q E s) :
    OpR X f (rI C fun i j => .int (g i j)) := by
  intro pins s σ H x y v u Q I rx ry h
  obtain ⟨i, j, rfl, rfl, hc, q⟩ := h
  obtain ⟨t, rfl⟩ := rx
  obtain ⟨t', rfl⟩ := ry
  exact rule i j t t' s _ _ hc ⟨.int (g i j), H, I.tok _, ⟨_, rfl⟩, q⟩
theorem opI0 {f : Value → Value → Sem Value} {g : Int → Int → Int}
    (rule : ∀ (i j : Int) (t u : Tok) (s : Shared) (Q : Value → Shared → Prop) (E : Value → Shared → Prop), Q (.int (g i j) s.toks) { s with toks := s.toks + 1 } → wpAny (model X.prog X.w) X.A (f (.int i t) (.int j u)) Q E s) :
    OpR X f (rI0 fun i j => .int (g i j)) := by
  intro pins s σ H x y v u Q I rx ry h
  obtain ⟨i, j, rfl, rfl, q⟩ := h
  obtain ⟨t, rfl⟩ := rx
  obtain ⟨t', rfl⟩ := ry
  exact rule i j t t' s _ _ ⟨.int (g i j), H, I.tok _, ⟨_, rfl⟩, q⟩
theorem opB0 {f : Value → Value → Sem Value} {g : Int → Int → Bool}
    (rule : ∀ (i j : Int) (t u : Tok) (s : Shared) (Q : Value → Shared → Prop) (E : Value → Shared → Prop), Q (.bool (g i j)) s → wpAny (model X.prog X.w) X.A (f (.int i t) (.int j u)) Q E s) :
    OpR X f (rI0 fun i j => .bl (g i j)) := by
  intro pins s σ H x y v u Q I rx ry h
  obtain ⟨i, j, rfl, rfl, q⟩ := h
  obtain ⟨t, rfl⟩ := rx
  obtain ⟨t', rfl⟩ := ry
  exact rule i j t t' s _ _ ⟨.bl (g i j), H, I, rfl, q⟩

noncomputable def CDiv (i j : Int) : Prop := 0 < j ∧ j < 1073741824
noncomputable def CPow (i j : Int) : Prop := 0 ≤ j ∧ j ≤ 1000000 ∧ i.natAbs < 2 ^ 64
noncomputable def CMul (i j : Int) : Prop := (-(2 ^ 64) < i ∧ i < 2 ^ 64) ∨ (-(2 ^ 64) < j ∧ j < 2 ^ 64)
theorem CMul.ok {i j : Int} (h : CMul i j) : IntMulOk i j := by
  rcases h with ⟨h1, h2⟩ | ⟨h1, h2⟩
  · exact .of_left (intBits_le_64 h1 h2)
  · exact .of_right (intBits_le_64 h1 h2)
theorem op_add : OpR X (binaryOp .Add) (rI0 fun i j => .int (i + j)) := opI0 fun _ _ _ _ _ _ _ q => add_int q
theorem op_mul : OpR X (binaryOp .Mult) (rI CMul fun i j => .int (i * j)) := opI fun _ _ _ _ _ _ _ hc q => mul_int q hc.ok
theorem op_fdiv : OpR X (binaryOp .FloorDiv) (rI CDiv fun i j => .int (i / j)) := opI fun i j _ _ _ _ _ hc q => by
  have h1 : (0 : Int) < j := hc.1
  have h2 : j < 1073741824 := hc.2
  exact floordiv_int (by omega) (by rw [Int.fdiv_eq_ediv_of_nonneg i (by omega)]; exact q) (.inl (PyProof.noPylong_small (by omega)))
theorem op_mod : OpR X (binaryOp .Mod) (rI (fun _ j => 0 < j) fun i j => .int (i % j)) := opI fun i j _ _ _ _ _ hc q => by
  have h1 : (0 : Int) < j := hc
  exact mod_int' (by omega) (by rw [Int.fmod_eq_emod_of_nonneg i (by omega)]; exact q)
theorem op_pow : OpR X (binaryOp .Pow) (rI CPow fun i j => .int (i ^ j.toNat)) := opI fun _ _ _ _ _ _ _ hc q => pow_int_small hc.1 hc.2.1 hc.2.2 q
theorem unI {f : Value → Sem Value} {g : Int → Int}
    (rule : ∀ (i : Int) (t : Tok) (s : Shared) (Q : Value → Shared → Prop) (E : Value → Shared → Prop), Q (.int (g i) s.toks) { s with toks := s.toks + 1 } → wpAny (model X.prog X.w) X.A (f (.int i t)) Q E s) :
    UnR X f (rU fun i => .int (g i)) := by
  intro pins s σ H x v Q I rx h
  obtain ⟨i, rfl, q⟩ := h
  obtain ⟨t, rfl⟩ := rx
  exact rule i t s _ _ ⟨.int (g i), H, I.tok _, ⟨_, rfl⟩, q⟩
theorem un_neg : UnR X (unaryOp .USub) (rU fun i => .int (-i)) := unI fun _ _ _ _ _ q => neg_int q
end

noncomputable def scal : V → V → Bool
  | .non, .non => true | .non, .int _ => true | .int _, .non => true | .non, .bl _ => true | .bl _, .non => true | .non, .str _ => true | .str _, .non => true
  | .int _, .int _ => true | .bl _, .bl _ => true | .str _, .str _ => true | .byt _, .byt _ => true
  | .int _, .str _ => true | .str _, .int _ => true | .bl _, .str _ => true | .str _, .bl _ => true
  | _, _ => false
noncomputable def rEq : R2 := fun x y H Q => scal x y = true ∧ Q (.bl (decide (x = y))) H
noncomputable def rNe : R2 := fun x y H Q => scal x y = true ∧ Q (.bl (!decide (x = y))) H

theorem dec_int {i j : Int} : decide (V.int i = V.int j) = (i == j) := by
  rw [Bool.eq_iff_iff]
  simp
theorem dec_bl {i j : Bool} : decide (V.bl i = V.bl j) = (i == j) := by
  rw [Bool.eq_iff_iff]
  simp
theorem dec_str {i j : Str} : decide (V.str i = V.str j) = (i == j) := by
  rw [Bool.eq_iff_iff]
  simp
theorem dec_byt {i j : Array UInt8} : decide (V.byt i = V.byt j) = (i.toList == j.toList) := by
  rw [Bool.eq_iff_iff]
  cases i
  cases j
  simp

section
variable {X : Cx} {a b c : Expr} {ta tb tc : TE} {pos : Pos}
theorem fin_bl {pins : List (Addr × Obj)} {σ : St} {H : Hp} {s : Shared} {Q : VK} {k k' : Bool} (I : Inv X pins σ H s) (q : Q (.bl k) H) (e : k = k') : EP X pins σ Q (.bool k') s := by
  subst e
  exact ⟨.bl k, H, I, rfl, q⟩
theorem op_eq : OpR X (compareOp .Eq) rEq := by
  intro pins s σ H x y v u Q I rx ry h
  obtain ⟨hs, q⟩ := h
  cases x with
  | non =>
    cases rx
    cases y with
    | non => cases ry; exact PySem.EqNone.eq_none_none (fin_bl I q (by simp))
    | bl j => cases ry; exact PySem.EqNone.eq_none_bool (fin_bl I q (by simp))
    | int j => obtain ⟨t', rfl⟩ := ry; exact PySem.EqNone.eq_none_int (fin_bl I q (by simp))
    | str j => obtain ⟨t', rfl⟩ := ry; exact PySem.EqNone.eq_none_str (fin_bl I q (by simp))
    | _ => exact absurd (show false = true from hs) Bool.false_ne_true
  | bl i =>
    cases rx
    cases y with
    | non => cases ry; exact PySem.EqNone.eq_bool_none (fin_bl I q (by simp))
    | bl j => cases ry; exact eq_bool (fin_bl I q dec_bl)
    | str j => obtain ⟨t', rfl⟩ := ry; exact PySem.EqMixed.eq_bool_str (fin_bl I q (by simp))
    | _ => exact absurd (show false = true from hs) Bool.false_ne_true
  | int i =>
    obtain ⟨t, rfl⟩ := rx
    cases y with
    | non => cases ry; exact PySem.EqNone.eq_int_none (fin_bl I q (by simp))
    | int j => obtain ⟨t', rfl⟩ := ry; exact eq_int (fin_bl I q dec_int)
    | str j => obtain ⟨t', rfl⟩ := ry; exact PySem.EqMixed.eq_int_str (fin_bl I q (by simp))
    | _ => exact absurd (show false = true from hs) Bool.false_ne_true
  | str i =>
    obtain ⟨t, rfl⟩ := rx
    cases y with
    | non => cases ry; exact PySem.EqNone.eq_str_none (fin_bl I q (by simp))
    | bl j => cases ry; exact PySem.EqMixed.eq_str_bool (fin_bl I q (by simp))
    | int j => obtain ⟨t', rfl⟩ := ry; exact PySem.EqMixed.eq_str_int (fin_bl I q (by simp))
    | str j => obtain ⟨t', rfl⟩ := ry; exact eq_str (fin_bl I q dec_str)
    | _ => exact absurd (show false = true from hs) Bool.false_ne_true
  | byt i =>
    obtain ⟨t, rfl⟩ := rx
    cases y with
    | byt j => obtain ⟨t', rfl⟩ := ry; exact PySem.W.eq_bytes (fin_bl I q dec_byt)
    | _ => exact absurd (show false = true from hs) Bool.false_ne_true
  | _ => cases y <;> exact absurd (show false = true from hs) Bool.false_ne_true
theorem op_ne : OpR X (compareOp .NotEq) rNe := by
  intro pins s σ H x y v u Q I rx ry h
  obtain ⟨hs, q⟩ := h
  cases x with
  | non =>
    cases rx
    cases y with
    | non => cases ry; exact PySem.EqNone.ne_none_none (fin_bl I q (by simp))
    | bl j => cases ry; exact PySem.EqNone.ne_none_bool (fin_bl I q (by simp))
    | int j => obtain ⟨t', rfl⟩ := ry; exact PySem.EqNone.ne_none_int (fin_bl I q (by simp))
    | str j => obtain ⟨t', rfl⟩ := ry; exact PySem.EqNone.ne_none_str (fin_bl I q (by simp))
    | _ => exact absurd (show false = true from hs) Bool.false_ne_true
  | bl i =>
    cases rx
    cases y with
    | non => cases ry; exact PySem.EqNone.ne_bool_none (fin_bl I q (by simp))
    | bl j => cases ry; exact ne_bool (fin_bl I q (congrArg not dec_bl))
    | str j => obtain ⟨t', rfl⟩ := ry; exact PySem.EqMixed.ne_bool_str (fin_bl I q (by simp))
    | _ => exact absurd (show false = true from hs) Bool.false_ne_true
  | int i =>
    obtain ⟨t, rfl⟩ := rx
    cases y with
    | non => cases ry; exact PySem.EqNone.ne_int_none (fin_bl I q (by simp))
    | int j => obtain ⟨t', rfl⟩ := ry; exact ne_int (fin_bl I q (congrArg not dec_int))
    | str j => obtain ⟨t', rfl⟩ := ry; exact PySem.EqMixed.ne_int_str (fin_bl I q (by simp))
    | _ => exact absurd (show false = true from hs) Bool.false_ne_true
  | str i =>
    obtain ⟨t, rfl⟩ := rx
    cases y with
    | non => cases ry; exact PySem.EqNone.ne_str_none (fin_bl I q (by simp))
    | bl j => cases ry; exact PySem.EqMixed.ne_str_bool (fin_bl I q (by simp))
    | int j => obtain ⟨t', rfl⟩ := ry; exact PySem.EqMixed.ne_str_int (fin_bl I q (by simp))
    | str j => obtain ⟨t', rfl⟩ := ry; exact ne_str (fin_bl I q (congrArg not dec_str))
    | _ => exact absurd (show false = true from hs) Bool.false_ne_true
  | byt i =>
    obtain ⟨t, rfl⟩ := rx
    cases y with
    | byt j => obtain ⟨t', rfl⟩ := ry; exact PySem.W.ne_bytes (fin_bl I q (congrArg not dec_byt))
    | _ => exact absurd (show false = true from hs) Bool.false_ne_true
  | _ => cases y <;> exact absurd (show false = true from hs) Bool.false_ne_true

theorem op_lt : OpR X (compareOp .Lt) (rI0 fun i j => .bl (decide (i < j))) := opB0 fun _ _ _ _ _ _ _ q => lt_int q
theorem op_le : OpR X (compareOp .LtE) (rI0 fun i j => .bl (decide (i ≤ j))) := opB0 fun _ _ _ _ _ _ _ q => le_int q
theorem op_gt : OpR X (compareOp .Gt) (rI0 fun i j => .bl (decide (j < i))) := opB0 fun _ _ _ _ _ _ _ q => gt_int q
theorem op_ge : OpR X (compareOp .GtE) (rI0 fun i j => .bl (decide (j ≤ i))) := opB0 fun _ _ _ _ _ _ _ q => ge_int q
theorem op_isN : OpR X (compareOp .Is) (fun x y H Q => y = .non ∧ Q (.bl (decide (x = .non))) H) := by
  intro pins s σ H x y v u Q I rx ry h
  obtain ⟨rfl, q⟩ := h
  cases ry
  refine is_none_gen (fin_bl I q ?_)
  cases x <;> first
    | (cases rx; rfl)
    | (obtain ⟨t, rfl⟩ := rx; rfl)
theorem op_notin_str : OpR X (compareOp .NotIn) (fun x y H Q => ∃ i j, x = .str i ∧ y = .str j ∧ Q (.bl (!(!(Builtin.Str.occurrences j i 0 j.length 1).isEmpty))) H) := by
  intro pins s σ H x y v u Q I rx ry h
  obtain ⟨i, j, rfl, rfl, q⟩ := h
  obtain ⟨t, rfl⟩ := rx
  obtain ⟨t', rfl⟩ := ry
  exact notIn_str (fin_bl I q rfl)
theorem nomark (b : Expr) {op : CmpOp} (h : op ≠ .In := by decide) (h2 : op ≠ .NotIn := by decide) : behindInMarks op b = false := by
  have e1 : (op == CmpOp.In) = false := by cases op <;> first | rfl | exact absurd rfl h
  have e2 : (op == CmpOp.NotIn) = false := by cases op <;> first | rfl | exact absurd rfl h2
  cases b <;> simp [behindInMarks, e1, e2]
theorem pe_cmpR {op : CmpOp} {r : R2} (ho : OpR X (compareOp op) r) (ha : PE X a ta) (hb : PE X b tb) (hm : behindInMarks op b = false) : PE X (.Compare a [op] [b] pos) (tOp r ta tb) := by
  intro pins s σ H Q I h
  exact wpAny_Compare1 (binT ha hb I h fun v u s2 x y H2 I2 rx ry q => ho pins s2 σ H2 x y v u Q I2 rx ry q) hm
noncomputable def tTest (t : TE) : TT := fun σ H Q => t σ H fun x H' => ∃ k, x = .bl k ∧ Q k H'
theorem pt_cmpR {op : CmpOp} {r : R2} (ho : OpR X (compareOp op) r) (ha : PE X a ta) (hb : PE X b tb) (hm : behindInMarks op b = false) : PT X (.Compare a [op] [b] pos) (tTest (tOp r ta tb)) := by
  intro pins s σ H Q I h
  refine wpAny_isTrue_Compare1 (thn (ha pins s σ H _ I h) fun v s1 ⟨x, H1, I1, r1, q1⟩ => thn (hb pins s1 σ H1 _ I1 q1) fun u s2 ⟨y, H2, I2, r2, q2⟩ =>
    thn (ho pins s2 σ H2 x y v u _ I2 r1 r2 q2) fun c s3 ⟨z, H3, I3, r3, k, e, q3⟩ => ?_) hm
  subst e
  cases r3
  exact wpAny_truthy_bool ⟨H3, I3, q3⟩
theorem line63 : (sizeLine : Nat) < 2 ^ 63 := by rw [sizeLine_eq]; decide
theorem op_add_str : OpR X (binaryOp .Add) (fun x y H Q => ∃ i j, x = .str i ∧ y = .str j ∧ i.length + j.length ≤ sizeLine ∧ Q (.str (i ++ j)) H) := by
  intro pins s σ H x y v u Q I rx ry h
  obtain ⟨i, j, rfl, rfl, hz, q⟩ := h
  obtain ⟨t, rfl⟩ := rx
  obtain ⟨t', rfl⟩ := ry
  exact add_str (fun t' tk => ⟨.str (i ++ j), H, I.tok _, ⟨_, rfl⟩, q⟩) hz
theorem vals1 {x : V} {us : List Value} (r : Vals [x] us) : ∃ u, us = [u] ∧ RelV x u := by
  cases r with
  | cons r1 r2 => cases r2; exact ⟨_, rfl, r1⟩
theorem vals2 {x y : V} {us : List Value} (r : Vals [x, y] us) : ∃ u w', us = [u, w'] ∧ RelV x u ∧ RelV y w' := by
  cases r with
  | cons r1 r2 =>
    cases r2 with
    | cons r3 r4 => cases r4; exact ⟨_, _, rfl, r1, r3⟩
theorem call_min2 (hc : X.calm = true) : CallR X (.builtin "min") (fun xs H Q => ∃ i j, xs = [.int i, .int j] ∧ Q (.int (if j < i then j else i)) H) := by
  intro pins s σ H xs us Q I r h
  obtain ⟨i, j, rfl, q⟩ := h
  obtain ⟨u, w', rfl, ⟨t, rfl⟩, ⟨t', rfl⟩⟩ := vals2 r
  refine min_two_ints (I.ok.hd hc) fun h' tk k => ⟨_, H, I.kept k, ?_, q⟩
  by_cases hj : j < i
  · rw [if_pos hj, if_pos hj]; exact ⟨_, rfl⟩
  · rw [if_neg hj, if_neg hj]; exact ⟨_, rfl⟩
theorem call_str_int : CallR X (.type "str") (fun xs H Q => ∃ i, xs = [.int i] ∧ i.natAbs.log2 < 1920 ∧ Q (.str (toString i)) H) := by
  intro pins s σ H xs us Q I r h
  obtain ⟨i, rfl, hz, q⟩ := h
  obtain ⟨u, rfl, t, rfl⟩ := vals1 r
  exact PySem.P.str_of_int hz ⟨.str _, H, I.tok _, ⟨_, rfl⟩, q⟩
end
end L2

namespace L2
open PySem PySem.Spec PyProof.Rows

structure ObjM (h : Heap) (x dx C : Addr) (mA : Str → Option Value) : Prop where
  obj : h.get? x = some (PySem.W.instObj C dx)
  ns : h.Ns1 dx mA
  ne : dx ≠ x

theorem lookIn_ns {h : Heap} {dx : Addr} {mA : Str → Option Value} (n : h.Ns1 dx mA) : ∃ od, h.get? dx = some od ∧ ∀ name, PySem.W.lookIn name od = some (mA name) := by
  obtain ⟨o, es, ep, ho, hd, hk, _, hm⟩ := n
  refine ⟨o, ho, fun name => ?_⟩
  have e := hm name
  unfold nsFind findBy at e
  rw [← Array.find?_toList] at e
  unfold PySem.W.lookIn
  rw [hd]
  dsimp only
  split
  · rename_i y q
    rw [q] at e
    exact congrArg some e
  · rename_i q
    rw [q] at e
    have a : es.toList.any (·.refKey) = false := by
      rw [List.any_eq_false]
      intro y hy
      obtain ⟨z, t, hkey⟩ := hk y (Array.mem_toList_iff.mp hy)
      simp [DictEntry.refKey, hkey]
    have a' : ¬ es.toList.any (·.refKey) = true := by rw [a]; exact Bool.false_ne_true
    rw [if_neg a']
    exact congrArg some e

theorem ObjM.look {h : Heap} {x dx C : Addr} {mA : Str → Option Value} (I : ObjM h x dx C mA) : ∃ od, PySem.W.InstAt h x (PySem.W.instObj C dx) C (some od) ∧ ∀ name, PySem.W.lookIn name od = some (mA name) :=
  let ⟨od, ho, hl⟩ := lookIn_ns I.ns
  ⟨od, ⟨I.obj, rfl, rfl, ho⟩, hl⟩

section
variable {prog : Program} {w : World} {A : Around} {E : Value → Shared → Prop} {s : Shared} {K : PySem.W.Frag} {x dx C f : Addr} {mA : Str → Option Value} {name : Str} {v : Value}

end

theorem RelO.some_of {v : V} {o : Option Value} (r : RelO (some v) o) : ∃ u, o = some u ∧ RelV v u := by
  cases o with
  | none => exact (show False from r).elim
  | some u => exact ⟨u, rfl, r⟩
section
variable {P : Program} {w : World} {H H' : Hp} {h h' : Heap} {a C dx : Addr} {fs fs' : List (Str × V)}
theorem ins_get (hok : HOk P w H h) (e : H a = some (.ins C dx fs)) : ∃ mA, ObjM h a dx C mA ∧ (∀ f, RelO (fs.lookup f) (mA f)) ∧ PySem.Within mA (fs.map (·.1)) ∧ fs.length ≤ 1000 ∧ H dx = some (.own a) := by
  obtain ⟨d, z, ne, ob, mA, n, r, q⟩ := (show ObjOk P w H h a (.ins C dx fs) from hok a _ e)
  exact ⟨mA, ⟨ob, n, ne⟩, r, q, z, d⟩
end

structure Cls (K : PySem.W.Frag) (C : Addr) : Prop where
  pg : PySem.W.plainGet K C Str.empty = true
  hd : PySem.W.hasDictIn K C = true
  po : PySem.W.plainOver K C = true
  sa : PySem.W.findIn K (.ref C) "__setattr__" = some (some (.builtin "object.__setattr__"))
theorem Cls.get {K : PySem.W.Frag} {C : Addr} (c : Cls K C) (f : Str) : PySem.W.plainGet K C f = true := c.pg
structure Con (K : PySem.W.Frag) (C : Addr) (f : Str) (v : V) (u : Value) : Prop where
  at_ : PySem.W.findIn K (.ref C) f = some (some u)
  rel : RelV v u
  get : PySem.W.specialIn K u "__get__" = some none
  cp : PySem.W.copiedNames.contains f = false
structure Meth (K : PySem.W.Frag) (C : Addr) (m : Str) (f : Addr) : Prop where
  at_ : PySem.W.findIn K (.ref C) m = some (some (.ref f))
  fn : PySem.W.isFn K (.ref f) = true
  kp : PySem.W.keepIn K (.ref f) = true

section
variable {X : Cx} {pins : List (Addr × Obj)} {σ : St} {H : Hp} {s : Shared} {a C dx : Addr} {fs : List (Str × V)} {f : Str} {v : V} {A : Around} {E : Value → Shared → Prop}

end

section
variable {X : Cx} {o e value : Expr} {f : Str} {pos pos' tpos : Pos} {ta tv : TE}
end

section
variable {X : Cx} {pins : List (Addr × Obj)} {σ : St} {H : Hp} {s : Shared} {A : Around} {E : Value → Shared → Prop} {Q : Value → Shared → Prop} {c : Value} {b : Bool}
inductive TyOf (K : PySem.W.Frag) (H : Hp) : V → Value → Prop where
  | non : TyOf K H .non (.type "NoneType")
  | bl (x : Bool) : TyOf K H (.bl x) (.type "bool")
  | int (i : Int) : TyOf K H (.int i) (.type "int")
  | str (x : Str) : TyOf K H (.str x) (.type "str")
  | flt (x : UInt64) : TyOf K H (.flt x) (.type "float")
  | lst {a : Addr} {xs : List V} (e : H a = some (.lst xs)) : TyOf K H (.ref a) (.type "list")
  | frz {a : Addr} {o : Obj} {xs : List V} (e : H a = some (.frz o (.lst xs))) : TyOf K H (.ref a) (.type "list")
  | tup {a : Addr} {xs : List V} (e : H a = some (.tup xs)) : TyOf K H (.ref a) (.type "tuple")
  | dK {a : Addr} {kvs : List (Key × V)} (e : H a = some (.dK kvs)) : TyOf K H (.ref a) (.type "dict")
  | dT {a : Addr} {kvs : List (List Key × V)} (e : H a = some (.dT kvs)) : TyOf K H (.ref a) (.type "dict")
  | ins {a C dx : Addr} {fs : List (Str × V)} (e : H a = some (.ins C dx fs)) (cl : Cls K C) (ha : PySem.W.findIn K (.ref C) "__class__" = some (some (.builtin "object.__class__")))
      (hn : PySem.W.specialIn K (.builtin "object.__class__") "__get__" = some (some (.builtin "getset_descriptor.__get__"))) (htk : PySem.W.takesIn K (.builtin "object.__class__") = some true)
      (hm : PySem.W.mroIn K C (.type "object") = some true) : TyOf K H (.ref a) (.ref C)
theorem isinst_ok {x : V} {u t : Value} (I : Inv X pins σ H s) (rx : RelV x u) (ty : TyOf X.K H x t) (e : PySem.W.kitOne X.K t c = some b) (h : ∀ tk, Q (.bool b) { s with toks := tk }) :
    wpAny (model X.prog X.w) A (call (.builtin "isinstance") [u, c]) Q E s := by
  cases ty with
  | non => cases (show u = Value.none from rx); exact PySem.W.kia_one PySem.W.kitx_none I.kIn True.intro e (fun z => nomatch z) h
  | bl y => cases (show u = Value.bool y from rx); exact PySem.W.kia_one PySem.W.kitx_bool I.kIn True.intro e (fun z => nomatch z) h
  | int i => obtain ⟨t, q⟩ := (show ∃ t, u = Value.int i t from rx); cases q; exact PySem.W.kia_one PySem.W.kitx_int I.kIn True.intro e (fun z => nomatch z) h
  | str y => obtain ⟨t, q⟩ := (show ∃ t, u = Value.str y t from rx); cases q; exact PySem.W.kia_one PySem.W.kitx_str I.kIn True.intro e (fun z => nomatch z) h
  | flt y => obtain ⟨t, q⟩ := (show ∃ t, u = Value.float y t from rx); cases q; exact PySem.W.kia_one PySem.W.kitx_float I.kIn True.intro e (fun z => nomatch z) h
  | @lst a xs ea =>
    cases (show u = Value.ref a from rx)
    obtain ⟨_, _, n, _, h1⟩ := (show ObjOk X.prog X.w H s.heap a (.lst xs) from I.hok a _ ea)
    exact PySem.W.kia_one PySem.W.kitx_list I.kIn ⟨_, h1, rfl⟩ e (fun z => nomatch z) h
  | @frz a ob xs ea =>
    cases (show u = Value.ref a from rx)
    obtain ⟨_, _, _, n, _, h1⟩ := (show ObjOk X.prog X.w H s.heap a (.frz ob (.lst xs)) from I.hok a _ ea)
    exact PySem.W.kia_one PySem.W.kitx_list I.kIn ⟨_, h1, rfl⟩ e (fun z => nomatch z) h
  | @tup a xs ea =>
    cases (show u = Value.ref a from rx)
    obtain ⟨_, _, _, p⟩ := (show ObjOk X.prog X.w H s.heap a (.tup xs) from I.hok a _ ea)
    obtain ⟨o, h1, h2, _⟩ := p
    exact PySem.W.kia_one PySem.W.kitx_tuple I.kIn ⟨o, h1, h2⟩ e (fun z => nomatch z) h
  | @dK a kvs ea =>
    cases (show u = Value.ref a from rx)
    obtain ⟨_, _, vs, _, p⟩ := (show ObjOk X.prog X.w H s.heap a (.dK kvs) from I.hok a _ ea)
    obtain ⟨o, es, ep, h1, h2, _⟩ := p
    exact PySem.W.kia_one PySem.W.kitx_dict I.kIn ⟨o, h1, h2.1⟩ e (fun z => nomatch z) h
  | @dT a kvs ea =>
    cases (show u = Value.ref a from rx)
    obtain ⟨_, _, xs, _, o, es, ep, h1, h2, _⟩ := (show ObjOk X.prog X.w H s.heap a (.dT kvs) from I.hok a _ ea)
    exact PySem.W.kia_one PySem.W.kitx_dict I.kIn ⟨o, h1, h2.1⟩ e (fun z => nomatch z) h
  | @ins a C dx fs ea cl ha hn htk hm =>
    cases (show u = Value.ref a from rx)
    obtain ⟨mA, O, _⟩ := ins_get I.hok ea
    obtain ⟨od, J, _⟩ := O.look
    exact PySem.W.kia_one (PySem.W.kitx_own (cl.get _) cl.hd ha hn htk hm) I.kIn J e (fun z => nomatch z) h
end
end L2

namespace L2
open PySem PySem.Spec PyProof.Rows

structure Room (k : Nat) (A : Around) : Prop where
  hd : A.handled = none
  dp : A.depth + 3 * k + 5 < recursionLimit
  un : A.units + 16 * k + 200 < cLine
theorem Room.mono {j k : Nat} {A : Around} (r : Room k A) (h : j ≤ k) : Room j A := ⟨r.hd, by have := r.dp; omega, by have := r.un; omega⟩
theorem Room.deeper {k : Nat} {A : Around} (r : Room (k + 1) A) (env : Env) : Room k (A.deeper env) :=
  ⟨r.hd, by have := r.dp; show A.depth + 1 + 3 * k + 5 < _; omega, by have := r.un; show A.units + 3 + 16 * k + 200 < _; omega⟩
theorem Room.depth {k : Nat} {A : Around} (r : Room k A) : A.depth < recursionLimit := by have := r.dp; omega
theorem Room.units {k : Nat} {A : Around} (r : Room k A) : A.units + 64 < cLine := by have := r.un; omega
noncomputable def tNil : TA := fun _ H Q => Q [] H
noncomputable def tCons (ta : TE) (tr : TA) : TA := fun σ H Q => ta σ H fun x H1 => tr σ H1 fun xs H2 => Q (x :: xs) H2
section
variable {X : Cx} {e : Expr} {es : List Expr} {te : TE} {t : TA} {pos : Pos}
theorem pa_nil : PA X [] tNil := fun _ _ _ _ H Q I h => Calls.spliced_nil ⟨[], H, I, .nil, h⟩
theorem pa_cons (ha : PE X e te) (hr : PA X es t) (hs : starEach (e :: es) X.env = (false, eval e X.env) :: starEach es X.env := by rfl) : PA X (e :: es) (tCons te t) := by
  intro pos pins s σ H Q I h
  rw [hs]
  show wpAny _ _ (spliced ((false, eval e X.env) :: backTo pos (starEach es X.env))) _ _ s
  refine Calls.spliced_cons (thn (ha pins s σ H _ I h) fun u s1 ⟨x, H1, I1, r1, q1⟩ => ?_)
  exact thn (hr pos pins s1 σ H1 _ I1 q1) fun us s2 ⟨xs, H2, I2, r2, q2⟩ => ⟨x :: xs, H2, I2, .cons r1 r2, q2⟩

noncomputable def tTup (t : TA) : TE := fun σ H Q => t σ H fun xs H1 => xs.length ≤ sizeLine ∧ ∀ p, H1 p = none → Q (.ref p) (upd H1 p (.tup xs))
noncomputable def tLst (t : TA) : TE := fun σ H Q => t σ H fun xs H1 => xs.length ≤ sizeLine ∧ ∀ p, H1 p = none → Q (.ref p) (upd H1 p (.lst xs))
theorem pe_tup {x1} (h : PA X es t) : PE X (.Tuple es x1 pos) (tTup t) := by
  intro pins s σ H Q I hq
  refine wpAny_Tuple_spliced (thn (h pos pins s σ H _ I hq) fun us s1 ⟨xs, H1, I1, r, z, q⟩ => ⟨by rw [← r.length]; exact z, ?_⟩)
  have hf : H1 s1.heap.objs.size = none := I1.hok.fresh (Nat.le_refl _)
  refine ⟨.ref s1.heap.objs.size, upd H1 s1.heap.objs.size (.tup xs), I1.laid (t' := s1.toks) (fun b u e => Heap.get?_push_of_some _ e) (Nat.le_refl _) ?_, rfl, q _ hf⟩
  exact ⟨z, us, r, ⟨_, Heap.get?_push_size _ rfl, rfl, _, rfl⟩⟩
theorem pe_lst (h : PA X es t) : PE X (.List es pos) (tLst t) := by
  intro pins s σ H Q I hq
  refine wpAny_List_spliced (thn (h pos pins s σ H _ I hq) fun us s1 ⟨xs, H1, I1, r, z, q⟩ => ⟨by rw [← r.length]; exact z, ?_⟩)
  have hf : H1 s1.heap.objs.size = none := I1.hok.fresh (Nat.le_refl _)
  refine ⟨.ref s1.heap.objs.size, upd H1 s1.heap.objs.size (.lst xs), I1.laid (t' := s1.toks) (fun b u e => Heap.get?_push_of_some _ e) (Nat.le_refl _) ?_, rfl, q _ hf⟩
  exact ⟨z, us, 0, r, Heap.get?_push_size _ rfl⟩
end

noncomputable abbrev Sp := List V → Hp → VK → XK → Prop
noncomputable abbrev CXT := List Env → Hp → Shared → XK → Value → Shared → Prop

structure Env0 (P : Program) (w : World) (K : PySem.W.Frag) (mg : Str → Option Value) (base : Heap) (A : Around) (outer : List Env) (s : Shared) (H : Hp) : Prop where
  frames : A.frames = some outer
  mod : Mod K mg base
  bs : ∀ b o, base.get? b = some o → s.heap.get? b = some o ∧ H b = none
  bsz : base.objs.size ≤ s.heap.objs.size
  funs : s.heap.FunFrames base outer
  frf : ∀ b ∈ frs outer, H b = none
  hok : HOk P w H s.heap
  bare : AllBare s.gens
noncomputable def CE (outer : List Env) (P : Program) (w : World) (H : Hp) (s : Shared) (Q : VK) (u : Value) (s' : Shared) : Prop :=
  ∃ v H', s'.os = s.os ∧ AllBare s'.gens ∧ Un (frs outer) [] H H' s.heap s'.heap ∧ HOk P w H' s'.heap ∧ RelV v u ∧ Q v H'
noncomputable def CR (CX : CXT) (outer : List Env) (P : Program) (w : World) (H : Hp) (s : Shared) (Q : VK) (E : XK) (r : Result) (s' : Shared) : Prop :=
  match r with
  | .ok (.ret u) => CE outer P w H s Q u s'
  | .ok _ => False
  | .error e => CX outer H s E e s'
structure FnOk (P : Program) (w : World) (K : PySem.W.Frag) (mg : Str → Option Value) (base : Heap) (CX : CXT) (k : Nat) (f : Addr) (fd : FuncData) (ps : List Str) (sp : Sp) : Prop where
  len : ∀ vs H Q E, sp vs H Q E → vs.length = ps.length
  run : ∀ (A : Around) (outer : List Env) (s : Shared) (H : Hp) (args : Args) (us : List Value) (vs : List V) (Q : VK) (E : XK), Room k A → Env0 P w K mg base A outer s H → BindsTo s fd args (ps.zip us) → Vals vs us → sp vs H Q E →
    codeAny (model P w) A (.call (.ref f) args) (CR CX outer P w H s Q E) s
section
variable {X : Cx} {pins : List (Addr × Obj)} {σ : St} {H : Hp} {s s' : Shared}
theorem Inv.env0 (I : Inv X pins σ H s) : Env0 X.prog X.w X.K X.mg X.base X.A X.stack s H :=
  ⟨I.ok.frames, I.ok.mod, I.bs, Nat.le_trans I.ok.bsz I.sz, I.stack, I.stkFree, I.hok, I.bare⟩
theorem Inv.after {Q : VK} {u : Value} (I : Inv X pins σ H s) (h : CE X.stack X.prog X.w H s Q u s') : EP X pins σ Q u s' := by
  obtain ⟨v, H', os, bare, un, hok, r, q⟩ := h
  obtain ⟨hh, g, d, t, os'⟩ := s'
  obtain rfl : os' = s.os := os
  exact ⟨v, H', I.call (h' := hh) (g' := g) (d' := d) (t' := t) (ch := []) un hok bare (fun b z => absurd z (by simp)), r, q⟩
end

noncomputable def tCall (sp : Sp) (dvs : List V) (E : XK) (t : TA) : TE := fun σ H Q => t σ H fun vs H1 => sp (vs ++ dvs) H1 Q E
noncomputable def Binds (K : PySem.W.Frag) (fd : FuncData) (ps : List Str) (ds : List Value) : Prop :=
  ∀ (s : Shared) (us : List Value), K.In s.heap → (us ++ ds).length = ps.length → BindsTo s fd ⟨us, []⟩ (ps.zip (us ++ ds))
theorem Binds.all {K : PySem.W.Frag} {fd : FuncData} {ps : List Str} (h : ∀ us : List Value, us.length = ps.length → bindArgs fd ⟨us, []⟩ = pure (ps.zip us)) : Binds K fd ps [] := fun s us _ hl => by
  rw [List.append_nil] at hl ⊢
  exact .of_eq (h us hl)

noncomputable def Passes (CX : CXT) (X : Cx) (E : XK) : Prop := ∀ (pins : List (Addr × Obj)) (σ : St) (H : Hp) (s : Shared) (e : Value) (s' : Shared), Inv X pins σ H s → CX X.stack H s E e s' → X.xe e s'

section
variable {X : Cx} {CX : CXT} {k : Nat} {f C : Addr} {fd : FuncData} {ps : List Str} {sp : Sp} {dvs : List V} {ds : List Value} {E : XK} {x m : Str} {p pos apos : Pos} {e o : Expr} {es : List Expr} {ta : TE} {t : TA}

theorem run_fn {pins : List (Addr × Obj)} {σ : St} {H : Hp} {s : Shared} {Q : VK} {us : List Value} {vs : List V} (F : FnOk X.prog X.w X.K X.mg X.base CX k f fd ps sp) (hr : Room k X.A) (hb : Binds X.K fd ps ds) (hd : Vals dvs ds) (hx : Passes CX X E)
    (I : Inv X pins σ H s) (r : Vals vs us) (h : sp (vs ++ dvs) H Q E) : wpAny (model X.prog X.w) X.A (call (.ref f) us) (EP X pins σ Q) X.xe s := by
  have r2 : Vals (vs ++ dvs) (us ++ ds) := r.append hd
  have hl : (us ++ ds).length = ps.length := by rw [← r2.length]; exact F.len _ _ _ _ h
  refine wpAny_call (codeAny_mono (F.run X.A X.stack s H ⟨us, []⟩ (us ++ ds) (vs ++ dvs) Q E hr I.env0 (hb s us I.kIn hl) r2 h) fun r s' hq => ?_)
  cases r with
  | error e => exact hx pins σ H s e s' I hq
  | ok fl =>
    cases fl with
    | ret u => exact I.after hq
    | next => exact False.elim hq
    | brk => exact False.elim hq
    | cont => exact False.elim hq

theorem pe_call (F : FnOk X.prog X.w X.K X.mg X.base CX k f fd ps sp) (hr : Room k X.A) (hg : Gl X x) (hm : X.mg x = some (.ref f)) (hk : PySem.W.keepIn X.K (.ref f) = true) (hb : Binds X.K fd ps ds) (hd : Vals dvs ds) (hx : Passes CX X E)
    (ha : PA X (e :: es) t) (hdb : (x == ("__debug__" : Str)) = false := by decide) (he : starEach (e :: es) X.env = (false, eval e X.env) :: starEach es X.env := by rfl) (hpl : (backTo pos (starEach es X.env)).any (·.1) = false := by rfl) :
    PE X (.Call (.Name x p) (e :: es) [] pos) (tCall sp dvs E t) := by
  intro pins s σ H Q I h
  refine wpAny_Call_Name_kw (ld_glob I hg hm ?_ hdb)
  refine PySem.W.callWith_K (h₀ := X.base) I.ok.mod.kin hk (thn (ha pos pins s σ H _ I h) fun us s1 ⟨vs, H1, I1, r, q⟩ => ⟨I1.kIn, ?_⟩) he hpl
  exact run_fn F hr hb hd hx I1 r q
structure Mk (K : PySem.W.Frag) (C f : Addr) : Prop where
  makes : PySem.W.makesIn K C = true
  init : PySem.W.findIn K (.ref C) "__init__" = some (some (.ref f))
  fn : PySem.W.isFn K (.ref f) = true
  kp : PySem.W.keepIn K (.ref C) = true

end

section
variable {X : Cx} {CX : CXT} {k : Nat} {f C : Addr} {fd : FuncData} {ps ks : List Str} {sp : Sp} {E : XK} {x m : Str} {p pos apos kpos : Pos} {e o : Expr} {es : List Expr} {kws : List Keyword} {te ta : TE} {t tk : TA} {nm : Option Str}
structure KBinds (K : PySem.W.Frag) (fd : FuncData) (ps ks : List Str) (g : List Value → List Value → List Value) (gV : List V → List V → List V) : Prop where
  to : ∀ (s : Shared) (us ws : List Value), K.In s.heap → (g us ws).length = ps.length → BindsTo s fd ⟨us, ks.zip ws⟩ (ps.zip (g us ws))
  rel : ∀ {vs : List V} {us : List Value} {zs : List V} {ws : List Value}, Vals vs us → Vals zs ws → Vals (gV vs zs) (g us ws)
variable {g : List Value → List Value → List Value} {gV : List V → List V → List V}
end

structure FnScope (N P : List Str) (sc : Scope) : Prop where
  kind : sc.kind = .function
  co : sc.isCoroutine = false
  gen : sc.isGenerator = false
  nd : N.Nodup
  pre : N.take P.length = P
  par : ∀ x ∈ P, sc.names.lookup x = some .local ∨ sc.names.lookup x = some .cell
  nofree : ∀ y ∈ sc.names, y.2 ≠ .free

theorem bindL_out {kindOf : Str → Option NameKind} {x : Str} : ∀ {binds : List (Str × Value)} {m : Str → Option Value}, (∀ v, (x, v) ∉ binds) → bindL kindOf binds m x = m x
  | [], _, _ => rfl
  | (n, v) :: r, m, h => by
    unfold bindL
    rw [bindL_out fun w hw => h w (List.mem_cons_of_mem _ hw)]
    split
    · have : x ≠ n := by rintro rfl; exact h v List.mem_cons_self
      simp [this]
    · rfl
theorem bindC_out {kindOf : Str → Option NameKind} {x : Str} : ∀ {binds : List (Str × Value)} {m : Str → Option Value}, (∀ v, (x, v) ∉ binds) → bindC kindOf binds m x = m x
  | [], _, _ => rfl
  | (n, v) :: r, m, h => by
    unfold bindC
    rw [bindC_out fun w hw => h w (List.mem_cons_of_mem _ hw)]
    split
    · rfl
    · have : x ≠ n := by rintro rfl; exact h v List.mem_cons_self
      simp [this]
theorem bindL_get {kindOf : Str → Option NameKind} {x : Str} {v : Value} : ∀ {P : List Str} {vs : List Value} {i : Nat} {m : Str → Option Value}, P.Nodup → P[i]? = some x → vs[i]? = some v → kindOf x = some .local →
    bindL kindOf (P.zip vs) m x = some v
  | [], _, _, _, _, h, _, _ => by simp at h
  | _ :: _, [], _, _, _, _, h, _ => by simp at h
  | p :: P, w :: vs, 0, m, nd, h1, h2, hk => by
    simp at h1 h2; subst h1; subst h2
    show bindL kindOf ((p, w) :: P.zip vs) m p = _
    unfold bindL
    rw [bindL_out fun v hv => (List.nodup_cons.mp nd).1 (List.of_mem_zip hv).1, if_pos hk]
    simp
  | p :: P, w :: vs, i + 1, m, nd, h1, h2, hk => by
    show bindL kindOf ((p, w) :: P.zip vs) m x = _
    unfold bindL
    exact bindL_get (i := i) (List.nodup_cons.mp nd).2 (by simpa using h1) (by simpa using h2) hk
theorem bindC_get {kindOf : Str → Option NameKind} {x : Str} {v : Value} : ∀ {P : List Str} {vs : List Value} {i : Nat} {m : Str → Option Value}, P.Nodup → P[i]? = some x → vs[i]? = some v → kindOf x ≠ some .local →
    bindC kindOf (P.zip vs) m x = some v
  | [], _, _, _, _, h, _, _ => by simp at h
  | _ :: _, [], _, _, _, _, h, _ => by simp at h
  | p :: P, w :: vs, 0, m, nd, h1, h2, hk => by
    simp at h1 h2; subst h1; subst h2
    show bindC kindOf ((p, w) :: P.zip vs) m p = _
    unfold bindC
    rw [bindC_out fun v hv => (List.nodup_cons.mp nd).1 (List.of_mem_zip hv).1, if_neg hk]
    simp
  | p :: P, w :: vs, i + 1, m, nd, h1, h2, hk => by
    show bindC kindOf ((p, w) :: P.zip vs) m x = _
    unfold bindC
    exact bindC_get (i := i) (List.nodup_cons.mp nd).2 (by simpa using h1) (by simpa using h2) hk

noncomputable def start (N : List Str) (vs : List V) : St := vs.map some ++ List.replicate (N.length - vs.length) none

noncomputable def cxOf (CX : CXT) (P : Program) (w : World) (K : PySem.W.Frag) (mg : Str → Option Value) (base : Heap) (N : List Str) (qual : Str) (scope : Scope) (f : Addr) (cd : Value) (A : Around) (outer : List Env) (s : Shared) (H : Hp) (E : XK) : Cx where
  prog := P
  w := w
  K := K
  mg := mg
  base := base
  A := A.deeper (envOfC qual scope s.heap.objs.size f cd)
  N := N
  s₀ := s
  H₀ := H
  env := envOfC qual scope s.heap.objs.size f cd
  outer := outer
  stack := envOfC qual scope s.heap.objs.size f cd :: outer
  ex := []
  calm := true
  fn := fun _ => true
  pn := []
  xe := fun e s' => wpAny (model P w) (A.deeper (envOfC qual scope s.heap.objs.size f cd)) (leaving (envOfC qual scope s.heap.objs.size f cd) e) (fun _ s'' => CX outer H s E e s'') (fun e' s'' => CX outer H s E e' s'') s'

theorem cell_has {sc : Scope} {n : Nat} {x : Str} (h : sc.names.lookup x = some .cell) : ∃ c, (cellsFrom n sc.names []).lookup x = some c := by
  have q := PySem.W.cellsFrom_some sc.names n [] (.inl h)
  exact Option.isSome_iff_exists.mp q

theorem inv_start {CX : CXT} {P : Program} {w : World} {K : PySem.W.Frag} {mg : Str → Option Value} {base : Heap} {N ps : List Str} {qual : Str} {scope : Scope} {f : Addr} {cd : Value} {A : Around} {outer : List Env} {s s1 : Shared} {H : Hp} {E : XK} {us : List Value} {vs : List V}
    (S : FnScope N ps scope) (hd : A.handled = none) (e0 : Env0 P w K mg base A outer s H) (hl : vs.length = ps.length) (r : Vals vs us)
    (x : InCallC s s.heap.objs.size (bindL (envOfC qual scope s.heap.objs.size f cd).kindOf (ps.zip us) fun _ => none) (cellsFrom (s.heap.objs.size + 1) scope.names []) (bindC (envOfC qual scope s.heap.objs.size f cd).kindOf (ps.zip us) fun _ => none) s1) :
    Inv (cxOf CX P w K mg base N qual scope f cd A outer s H E) [] (start N vs) H s1 := by
  have hpl : ps.length ≤ N.length := by have := congrArg List.length S.pre; rw [List.length_take] at this; omega
  obtain ⟨h1, tk, rfl, hk⟩ := x.done
  have noA : ∀ b : Addr, b ∉ (cxOf CX P w K mg base N qual scope f cd A outer s H E).ex := fun b z => absurd (show b ∈ ([] : List Addr) from z) (by simp)
  refine ⟨⟨e0.mod, S.kind, rfl, rfl, Nat.le_refl _, fun y z c h1 h2 => ?_, fun y hy => ?_, fun y c _ h => ?_, fun _ => hd, Around.frames_deeper e0.frames, .inr ⟨rfl, rfl⟩, fun b z => absurd z (noA b), e0.bs, e0.bsz, fun b _ _ => noA b, fun b z => absurd z (noA b), e0.funs, e0.frf⟩,
    rfl, e0.bare, Un.kept hk, ⟨_, x.toInCall.ns, fun i y v h1 h2 h3 => ?_⟩, fun y c h => ⟨_, x.cell y c h⟩, e0.hok.fresh (Nat.le_refl _), fun y c h => ?_, fun p hp => absurd (show p ∈ ([] : List (Addr × Obj)) from hp) (by simp), e0.hok.kept hk, ?_⟩
  · exact name_of_addr x.apart (PySem.mem_of_lookup h1) (PySem.mem_of_lookup h2)
  · have hy : scope.names.lookup y = some .cell ∨ scope.names.lookup y = some .free := hy
    rcases hy with hy | hy
    · exact cell_has hy
    · exact absurd rfl (S.nofree _ (PySem.mem_of_lookup hy))
  · exact Nat.le_of_lt (x.above y c (PySem.mem_of_lookup h))
  · have hi : i < vs.length := by
      unfold start at h2
      by_cases hi : i < vs.length
      · exact hi
      · rw [List.getElem?_append_right (by simpa using hi)] at h2
        rw [List.getElem?_replicate] at h2
        split at h2 <;> cases h2
    have ha : vs[i]? = some v := by
      unfold start at h2
      rw [List.getElem?_append_left (by simpa using hi), List.getElem?_map] at h2
      cases e : vs[i]? with
      | none => rw [e] at h2; cases h2
      | some a => rw [e] at h2; cases h2; rfl
    obtain ⟨u, hu, rv⟩ := r.get ha
    have hp : ps[i]? = some y := by
      rw [← S.pre, List.getElem?_take_of_lt (by omega)]; exact h1
    have ndP : ps.Nodup := by rw [← S.pre]; exact S.nd.sublist (List.take_sublist _ _)
    refine ⟨u, rv, ?_⟩
    rcases S.par y (List.mem_of_getElem? hp) with k | k
    · exact .inl ⟨k, bindL_get ndP hp hu k⟩
    · obtain ⟨c, e⟩ := cell_has (n := s.heap.objs.size + 1) k
      refine .inr ⟨.inl k, c, e, ?_⟩
      have q := x.cell y c e
      rw [bindC_get ndP hp hu (by show scope.names.lookup y ≠ _; rw [k]; decide)] at q
      exact q
  · exact e0.hok.fresh (Nat.le_of_lt (x.above y c (PySem.mem_of_lookup h)))
  · unfold start
    show _ = N.length
    rw [List.length_append, List.length_map, List.length_replicate]
    omega

theorem fn_of {CX : CXT} {P : Program} {w : World} {K : PySem.W.Frag} {mg : Str → Option Value} {base : Heap} {k : Nat} {f : Addr} {name qual : Str} {params : Arguments} {body : List Stmt} {scope : Scope} {dV kV doc pm cdv ct oc : Value} {an od : Option Addr}
    {osl : Array (Option Value)} {N ps : List Str} {sp : Sp} (lk : K.lookup f = some ⟨oc, od, .func (PySem.W.fnOf name qual params body scope dV kV doc pm an cdv ct), osl⟩) (hcd : PySem.W.codeIn K cdv qual = true) (S : FnScope N ps scope)
    (len : ∀ vs H Q E, sp vs H Q E → vs.length = ps.length)
    (hbody : ∀ (A : Around) (outer : List Env) (s : Shared) (H : Hp) (vs : List V) (Q : VK) (E : XK), Room k (A.deeper (envOfC qual scope s.heap.objs.size f cdv)) → sp vs H Q E →
      ∃ t, PSs (cxOf CX P w K mg base N qual scope f cdv A outer s H E) body t ∧ t { nx := fun _ H' => Q .non H', rt := Q } (start N vs) H) :
    FnOk P w K mg base CX (k + 1) f (PySem.W.fnOf name qual params body scope dV kV doc pm an cdv ct) ps sp := by
  refine ⟨len, fun A outer s H args us vs Q E hr e0 hb r hsp => ?_⟩
  have hl := len _ _ _ _ hsp
  have KX : K.In s.heap := e0.mod.kin.keeps fun b o e => (e0.bs b o e).1
  have lim : s.heap.NoLimit := e0.mod.nolimit.keeps fun b o e => (e0.bs b o e).1
  have hkind : ∀ y ∈ ps.zip us, scope.names.lookup y.1 = some .local ∨ (scope.names.lookup y.1 = some .cell ∧ ((cellsFrom (s.heap.objs.size + 1) scope.names []).lookup y.1).isSome = true) := fun ⟨n, v⟩ hy => by
    rcases S.par n (List.of_mem_zip hy).1 with q | q
    · exact .inl q
    · exact .inr ⟨q, PySem.W.cellsFrom_some _ _ _ (.inl q)⟩
  refine codeAny_call_function hr.depth (KX _ _ lk) rfl S.co S.gen rfl (PySem.W.codeRec_of KX hcd) (hb _ _ _ _ ?_)
  refine wpAny_newFunctionEnv_cells S.kind hkind fun env he s1 x => ?_
  subst he
  refine ⟨lim.keeps x.toInCall.keep, codeAny_func ?_⟩
  obtain ⟨t, ht, hq⟩ := hbody A outer s H vs Q E (hr.deeper _) hsp
  have I : Inv (cxOf CX P w K mg base N qual scope f cdv A outer s H E) [] (start N vs) H s1 := inv_start S hr.hd e0 hl r x
  refine wpAny_mono (ht [] s1 (start N vs) H _ I hq) (fun fl s' hs => ?_) fun e s' hs => hs
  have fin : ∀ {σ' : St} {H' : Hp} {v : V} {u : Value}, Inv (cxOf CX P w K mg base N qual scope f cdv A outer s H E) [] σ' H' s' → RelV v u → Q v H' → CE outer P w H s Q u s' :=
    fun {σ' H' v u} J rv q => ⟨v, H', J.os, J.bare, J.base, J.hok, rv, q⟩
  cases fl with
  | ret u =>
    obtain ⟨v, σ', H', J, rv, q⟩ := hs
    exact fin J rv q
  | next =>
    obtain ⟨σ', H', J, q⟩ := hs
    exact fin (v := V.non) (u := Value.none) J rfl q
  | brk =>
    obtain ⟨_, _, _, q⟩ := hs
    exact False.elim q
  | cont =>
    obtain ⟨_, _, _, q⟩ := hs
    exact False.elim q
end L2

namespace L2
open PySem PySem.Spec PyProof.Rows
section
variable {X : Cx} {x : Str} {p pos : Pos} {e : Expr} {es : List Expr} {t : TA} {id T : String} {r : List V → Hp → VK → Prop}

noncomputable def tCB (r : List V → Hp → VK → Prop) (t : TA) : TE := fun σ H Q => t σ H fun vs H1 => r vs H1 Q
theorem pe_callB (hc : CallR X (.builtin id) r) (hg : Gl X x) (hm : X.mg x = none) (hv : bootBuiltins x = some (.builtin id)) (ha : PA X (e :: es) t) (hn : x ≠ "__name__" := by decide) (hdb : (x == ("__debug__" : Str)) = false := by decide)
    (he : starEach (e :: es) X.env = (false, eval e X.env) :: starEach es X.env := by rfl) (hpl : (backTo pos (starEach es X.env)).any (·.1) = false := by rfl) : PE X (.Call (.Name x p) (e :: es) [] pos) (tCB r t) := by
  intro pins s σ H Q I h
  refine wpAny_Call_Name_kw (ld_blt I hg hm hv ?_ hn hdb)
  exact PyProof.Rows.callWith_builtin1 (thn (ha pos pins s σ H _ I h) fun us s1 ⟨vs, H1, I1, r1, q1⟩ => hc pins s1 σ H1 vs us Q I1 r1 q1) he hpl
theorem pe_callTy (hc : CallR X (.type T) r) (hg : Gl X x) (hm : X.mg x = none) (hv : bootBuiltins x = some (.type T)) (ha : PA X (e :: es) t) (hn : x ≠ "__name__" := by decide) (hdb : (x == ("__debug__" : Str)) = false := by decide)
    (he : starEach (e :: es) X.env = (false, eval e X.env) :: starEach es X.env := by rfl) (hpl : (backTo pos (starEach es X.env)).any (·.1) = false := by rfl) : PE X (.Call (.Name x p) (e :: es) [] pos) (tCB r t) := by
  intro pins s σ H Q I h
  refine wpAny_Call_Name_kw (ld_blt I hg hm hv ?_ hn hdb)
  exact PyProof.Rows.callWith_type1 (thn (ha pos pins s σ H _ I h) fun us s1 ⟨vs, H1, I1, r1, q1⟩ => hc pins s1 σ H1 vs us Q I1 r1 q1) he hpl
end
end L2

namespace HT
open PySem PyProof.Rows

noncomputable def lexLt : List Int → List Int → Bool
  | [], [] => false
  | [], _ :: _ => true
  | _ :: _, [] => false
  | x :: xs, y :: ys => if x = y then lexLt xs ys else decide (x < y)
theorem lexLt_cons (x y : Int) (xs ys : List Int) : lexLt (x :: xs) (y :: ys) = if x = y then lexLt xs ys else decide (x < y) := rfl
section
open PySem.SeqAt
open PySem.AutoSeq1 (wpAny_loadPart')
open PySem.MeetsSeq PySem.MeetsSeq2 PySem.MeetsSeq3

end

section
variable {prog : Program} {w : World} {A : Around} {E : Value → Shared → Prop} {s : Shared}

theorem cat_tup {t b : Addr} {vs ws : List Value} {Q : Value → Shared → Prop} (ht : IsTup s.heap t vs.toArray) (hb : IsTup s.heap b ws.toArray) (hv : vs ≠ [])
    (h1 : ws = [] → Q (.ref t) s) (h2 : ws ≠ [] → Q (.ref s.heap.objs.size) { s with heap := s.heap.push { cls := .type "tuple", data := .seq (vs ++ ws).toArray } })
    (hsz : vs.length + ws.length ≤ sizeLine) : wpAny (model prog w) A (binaryOp .Add (.ref t) (.ref b)) Q E s := by
  obtain ⟨⟨cls, dd, data, sl⟩, ho, hc, n, hd⟩ := id ht
  obtain ⟨⟨cls2, dd2, data2, sl2⟩, ho2, hc2, n2, hd2⟩ := id hb
  simp only at hc hd hc2 hd2
  subst hc hd hc2 hd2
  have e : vs.toArray ++ ws.toArray = (vs ++ ws).toArray := by simp
  by_cases hw : ws = []
  · exact concat_meets ⟨_, ho, rfl⟩ ⟨_, ho2, rfl⟩ noFill_tuple_add seq_tuple_add PySem.F.slot_tuple_add PySem.F.entry_tuple_add (PySem.F.args_tuple_add_2 _ _)
      (tuple_addW1 t b vs.toArray ws.toArray n n2 dd dd2 sl sl2 (by simpa using hv) (by simp [hw])) ⟨ho, ho2, h1 hw⟩
  · refine concat_meets ⟨_, ho, rfl⟩ ⟨_, ho2, rfl⟩ noFill_tuple_add seq_tuple_add PySem.F.slot_tuple_add PySem.F.entry_tuple_add (PySem.F.args_tuple_add_2 _ _)
      (tuple_addW2 t b vs.toArray ws.toArray n n2 dd dd2 sl sl2 (by simpa using hv) (by simpa using hw) (by rw [List.size_toArray, List.size_toArray]; exact hsz)) ⟨ho, ho2, ?_⟩
    rw [e]
    exact h2 hw

noncomputable def sIx (n d : Nat) : Option Int → Nat
  | none => d
  | some v => if v < 0 then (v + (n : Int)).toNat else min v.toNat n
theorem sIx_none (n d : Nat) : sIx n d none = d := rfl
theorem sIx_nat (n d k : Nat) : sIx n d (some (k : Int)) = min k n := by
  show (if (k : Int) < 0 then ((k : Int) + (n : Int)).toNat else min (k : Int).toNat n) = min k n
  rw [if_neg (by omega), Int.toNat_natCast]
end
end HT

namespace L2
open PySem PySem.Spec PyProof.Rows

noncomputable abbrev TO := St → Hp → (Option Int → Hp → Prop) → Prop
noncomputable def PO (X : Cx) (e : Option Expr) (t : TO) : Prop :=
  ∀ (pins : List (Addr × Obj)) (s : Shared) (σ : St) (H : Hp) (Q : Option Int → Hp → Prop), Inv X pins σ H s → t σ H Q →
    wpAny (model X.prog X.w) X.A (evalPart e X.env) (fun u s' => ∃ o H', Inv X pins σ H' s' ∧ IsPart u o ∧ Q o H') X.xe s
noncomputable def tNoPart : TO := fun _ H Q => Q none H
noncomputable def tPart (t : TE) : TO := fun σ H Q => t σ H fun x H1 => ∃ i, x = .int i ∧ Q (some i) H1

section
variable {X : Cx} {e : Expr} {te : TE} {lo hi : Option Expr} {tl th : TO} {pos p2 : Pos}

theorem po_none : PO X none tNoPart := by
  intro pins s σ H Q I h
  rw [evalPart_none]
  exact wpAny_pure ⟨none, H, I, .none, h⟩
theorem po_some (h : PE X e te) : PO X (some e) (tPart te) := by
  intro pins s σ H Q I hw
  rw [evalPart_some]
  refine thn (h pins s σ H _ I hw) fun u s1 ⟨x, H1, I1, r1, q1⟩ => ?_
  obtain ⟨i, rfl, q⟩ := q1
  obtain ⟨t, rfl⟩ := r1
  exact ⟨some i, H1, I1, .int i t, q⟩

noncomputable def SlR (X : Cx) (r : V → Option Int → Option Int → Hp → VK → Prop) : Prop :=
  ∀ (pins : List (Addr × Obj)) (s : Shared) (σ : St) (H : Hp) (x : V) (v vl vu : Value) (lo hi : Option Int) (sl : Addr) (Q : VK), Inv X pins σ H s → RelV x v → s.heap.IsSliceOf sl vl vu .none → IsPart vl lo → IsPart vu hi → r x lo hi H Q →
    ∃ T id, typeLookup (.type T) "__getitem__" = pure (some (.builtin id)) ∧ s.TypeIs v T ∧ wpAny (model X.prog X.w) X.A (getItem v (.ref sl)) (EP X pins σ Q) X.xe s
noncomputable def tSl (r : V → Option Int → Option Int → Hp → VK → Prop) (te : TE) (tl th : TO) : TE := fun σ H Q => te σ H fun x H1 => tl σ H1 fun l H2 => th σ H2 fun u H3 => r x l u H3 Q
theorem pe_slice {r : V → Option Int → Option Int → Hp → VK → Prop} (hr : SlR X r) (he : PE X e te) (hl : PO X lo tl) (hu : PO X hi th) : PE X (.Subscript e (.Slice lo hi none p2) pos) (tSl r te tl th) := by
  intro pins s σ H Q I h
  refine Subscript_ (thn (he pins s σ H _ I h) fun v s1 ⟨x, H1, I1, r1, q1⟩ => ?_)
  refine wpAny_Slice (thn (hl pins s1 σ H1 _ I1 q1) fun vl s2 ⟨l, H2, I2, pl, q2⟩ => thn (hu pins s2 σ H2 _ I2 q2) fun vu s3 ⟨u, H3, I3, pu, q3⟩ => ?_)
  rw [evalPart_none]
  refine wpAny_pure ?_
  have I4 : Inv X pins σ H3 { s3 with heap := s3.heap.push { cls := .type "slice", data := .fields #[vl, vu, .none] } } := I3.kept (t' := s3.toks) fun b ob q => Heap.get?_push_of_some _ q
  obtain ⟨T, id, hT, ht, hg⟩ := hr pins { s3 with heap := s3.heap.push { cls := .type "slice", data := .fields #[vl, vu, .none] } } σ H3 x v vl vu l u s3.heap.objs.size Q I4 r1 (Heap.IsSliceOf.new ..) pl pu q3
  show wpAny (model X.prog X.w) X.A (subscriptTail e (.Slice lo hi none p2) v (.ref s3.heap.objs.size)) (EP X pins σ Q) X.xe { s3 with heap := s3.heap.push { cls := .type "slice", data := .fields #[vl, vu, .none] } }
  exact tail_any (ops := [.ref s3.heap.objs.size, v]) ht hT hg (by with_unfolding_all rfl)

noncomputable def cutV (xs : List V) (lo hi : Option Int) : List V := (xs.drop (HT.sIx xs.length 0 lo)).take (HT.sIx xs.length xs.length hi - HT.sIx xs.length 0 lo)
theorem cutV_length (xs : List V) (lo hi : Option Int) : (cutV xs lo hi).length ≤ xs.length := by
  unfold cutV
  rw [List.length_take, List.length_drop]
  omega
noncomputable def rCatT (K : PySem.W.Frag) : R2 := fun x y H Q => ∃ a b xs ys, x = .ref a ∧ y = .ref b ∧ SqT K H a xs ∧ SqT K H b ys ∧ xs ≠ [] ∧ xs.length + ys.length ≤ sizeLine ∧
  (ys = [] → Q (.ref a) H) ∧ (ys ≠ [] → ∀ p, H p = none → Q (.ref p) (upd H p (.tup (xs ++ ys))))
theorem Vals.nil_iff {xs : List V} {us : List Value} (r : Vals xs us) : us = [] ↔ xs = [] := by
  cases r with
  | nil => simp
  | cons _ _ => simp
theorem op_catT : OpR X (binaryOp .Add) (rCatT X.K) := by
  intro pins s σ H x y v u Q I rx ry h
  obtain ⟨a, b, xs, ys, rfl, rfl, ha, hb, hx, hz, q1, q2⟩ := h
  cases rx
  cases ry
  obtain ⟨its, r1, p1, _⟩ := I.tuple ha
  obtain ⟨its2, r2, p2, _⟩ := I.tuple hb
  refine HT.cat_tup p1 p2 (fun z => hx (r1.nil_iff.mp z)) (fun z => ⟨.ref a, H, I, rfl, q1 (r2.nil_iff.mp z)⟩) (fun z => ?_) (by rw [← r1.length, ← r2.length]; exact hz)
  refine ⟨.ref s.heap.objs.size, _, I.laid (t' := s.toks) (o := .tup (xs ++ ys)) (fun b ob q => Heap.get?_push_of_some _ q) (Nat.le_refl _) ?_, rfl, q2 (fun w => z (r2.nil_iff.mpr w)) _ (I.hok.fresh (Nat.le_refl _))⟩
  exact ⟨by rw [List.length_append]; exact hz, _, r1.append r2, IsTup.new _ _⟩
end
end L2

namespace L2
open PySem PySem.Spec PyProof.Rows

noncomputable def ixN (n : Nat) (i : Int) : Option Nat := if 0 ≤ i then (if i < n then some i.toNat else none) else if -(n : Int) ≤ i then some (i + n).toNat else none
noncomputable def atI {α : Type} (xs : List α) (i : Int) : Option α := (ixN xs.length i).bind fun j => xs[j]?
theorem ixN_seq {n : Nat} {i : Int} {j : Nat} (h : ixN n i = some j) : seqIndex? i n = some j ∧ j < n ∧ -(n : Int) ≤ i ∧ i < n := by
  unfold ixN at h
  by_cases h0 : 0 ≤ i
  · rw [if_pos h0] at h
    by_cases h1 : i < n
    · rw [if_pos h1] at h
      have e : i.toNat = j := Option.some.inj h
      exact ⟨by rw [seqIndex_of h0 h1, e], by omega, by omega, h1⟩
    · rw [if_neg h1] at h; cases h
  · rw [if_neg h0] at h
    by_cases h1 : -(n : Int) ≤ i
    · rw [if_pos h1] at h
      have e : (i + n).toNat = j := Option.some.inj h
      exact ⟨by rw [seqIndex_neg (by omega) h1, e], by omega, h1, by omega⟩
    · rw [if_neg h1] at h; cases h
theorem atI_get {α : Type} {xs : List α} {i : Int} {v : α} (h : atI xs i = some v) : ∃ j, seqIndex? i xs.length = some j ∧ xs[j]? = some v ∧ j < xs.length ∧ -(xs.length : Int) ≤ i ∧ i < xs.length := by
  unfold atI at h
  cases e : ixN xs.length i with
  | none => rw [e] at h; cases h
  | some j =>
    rw [e] at h
    obtain ⟨h1, h2, h3, h4⟩ := ixN_seq e
    exact ⟨j, h1, h, h2, h3, h4⟩
noncomputable def PlainIx (b : Expr) : Prop := ∀ o i, subscripted b false o i = operate [o, i] (getItem o i)
noncomputable def IxR (X : Cx) (r : R2) : Prop :=
  ∀ (value slice : Expr) (pins : List (Addr × Obj)) (s : Shared) (σ : St) (H : Hp) (x y : V) (v u : Value) (Q : VK), Inv X pins σ H s → RelV x v → RelV y u → r x y H Q →
    subscripted slice false v u = operate [v, u] (getItem v u) → wpAny (model X.prog X.w) X.A (subscriptTail value slice v u) (EP X pins σ Q) X.xe s
noncomputable def MtR (X : Cx) (id : String) (r : V → List V → Hp → VK → Prop) : Prop :=
  ∀ (pins : List (Addr × Obj)) (s : Shared) (σ : St) (H : Hp) (x : V) (xs : List V) (v : Value) (us : List Value) (Q : VK), Inv X pins σ H s → RelV x v → Vals xs us → r x xs H Q →
    wpAny (model X.prog X.w) X.A (call (.builtin id) (v :: us)) (EP X pins σ Q) X.xe s
section
variable {X : Cx} {a b : Expr} {ta tb : TE} {pos : Pos}
theorem pe_ix {r : R2} (hr : IxR X r) (ha : PE X a ta) (hb : PE X b tb) (hs : PlainIx b) : PE X (.Subscript a b pos) (tOp r ta tb) := by
  intro pins s σ H Q I h
  exact Subscript_ (binT ha hb I h fun v u s2 x y H2 I2 rx ry q => hr a b pins s2 σ H2 x y v u Q I2 rx ry q (hs _ _))

noncomputable def rIxL (K : PySem.W.Frag) : R2 := fun x y H Q => ∃ p xs i v, x = .ref p ∧ y = .int i ∧ SqL K H p xs ∧ atI xs i = some v ∧ Q v H
noncomputable def rIxT (K : PySem.W.Frag) : R2 := fun x y H Q => ∃ p xs i v, x = .ref p ∧ y = .int i ∧ SqT K H p xs ∧ atI xs i = some v ∧ Q v H
noncomputable def rIxS : R2 := fun x y H Q => ∃ z i c, x = .str z ∧ y = .int i ∧ z.length ≤ sizeLine ∧ atI z.cps.toList i = some c ∧ Q (.str ⟨#[c]⟩) H
theorem ix_list : IxR X (rIxL X.K) := by
  intro value slice pins s σ H x y v u Q I rx ry h hs
  obtain ⟨p, xs, i, z, rfl, rfl, hq, he, q⟩ := h
  cases rx
  obtain ⟨t, rfl⟩ := ry
  obtain ⟨its, r, pl, hz⟩ := I.list hq
  obtain ⟨j, h1, h2, h3, h4, h5⟩ := atI_get he
  obtain ⟨w, ew, rw'⟩ := r.get h2
  have hl := r.length
  have hn := line63
  have fin : EP X pins σ Q w s := ⟨z, H, I, rw', q⟩
  by_cases h0 : 0 ≤ i
  · have hj : i.toNat = j := by
      rw [seqIndex_of h0 h5] at h1
      exact Option.some.inj h1
    exact item_listR pl.isList h0 (by omega) (by rw [hj]; simpa using ew) fin hs
  · have hj : (i + (its.toArray.size : Int)).toNat = j := by
      rw [seqIndex_neg (by omega) h4] at h1
      rw [List.size_toArray, ← hl]
      exact Option.some.inj h1
    exact subscriptTail_builtinR (x := w) pl.isList.typeIs slot_list_getitem.lookup
      (wpAny_getItem_list_neg (Q := fun r s' => r = w ∧ EP X pins σ Q r s') pl.isList (by omega) (by rw [List.size_toArray] <;> omega) (by omega) (by rw [hj]; simpa using ew) ⟨rfl, fin⟩) hs
theorem ix_tup : IxR X (rIxT X.K) := by
  intro value slice pins s σ H x y v u Q I rx ry h hs
  obtain ⟨p, xs, i, z, rfl, rfl, hq, he, q⟩ := h
  cases rx
  obtain ⟨t, rfl⟩ := ry
  obtain ⟨its, r, pl, hz⟩ := I.tuple hq
  obtain ⟨j, h1, h2, h3, h4, h5⟩ := atI_get he
  obtain ⟨w, ew, rw'⟩ := r.get h2
  have hl := r.length
  have hn := line63
  have fin : EP X pins σ Q w s := ⟨z, H, I, rw', q⟩
  exact subscriptTail_builtinR (x := w) pl.typeIs slot_tuple_getitem.lookup
    (getItem_tuple (j := j) (Q := fun r s' => r = w ∧ EP X pins σ Q r s') pl (by omega) (by omega) (by rw [List.size_toArray, ← hl]; exact h1) (by simpa using ew) ⟨rfl, fin⟩) hs
theorem ix_str : IxR X rIxS := by
  intro value slice pins s σ H x y v u Q I rx ry h hs
  obtain ⟨z, i, c, rfl, rfl, hz, he, q⟩ := h
  obtain ⟨t, rfl⟩ := rx
  obtain ⟨t', rfl⟩ := ry
  obtain ⟨j, h1, h2, h3, h4, h5⟩ := atI_get he
  have hl : z.cps.toList.length = z.length := by simp [Str.length]
  rw [hl] at h1 h4 h5
  have hn := line63
  exact tail_any (typeIs_str s z t) slot_str_getitem.lookup (getItem_str (c := c) (by
    have e1 : decide (i < -(2 ^ 63 : Int)) = false := decide_eq_false (by omega)
    have e2 : decide (i ≥ 2 ^ 63) = false := decide_eq_false (by omega)
    rw [e1, e2, Bool.or_false]) (by rw [h1]; simpa using h2) ⟨.str ⟨#[c]⟩, H, I.tok _, ⟨_, rfl⟩, q⟩) hs
theorem slice_bounds (lo hi : Option Int) (n : Nat) : (sliceBounds lo hi none n).1 = ((HT.sIx n 0 lo : Nat) : Int) ∧ (sliceBounds lo hi none n).2.1 = ((HT.sIx n n hi : Nat) : Int) ∧ (sliceBounds lo hi none n).2.2 = 1 := by
  refine ⟨?_, ?_, rfl⟩
  · cases lo with
    | none => simp [sliceBounds, HT.sIx]
    | some i =>
      simp only [sliceBounds, HT.sIx, Option.getD_none, show (1 : Int) > 0 by decide, if_true]
      by_cases h : i < 0
      · simp only [h, if_true] <;> omega
      · simp only [h, if_false] <;> omega
  · cases hi with
    | none => simp [sliceBounds, HT.sIx]
    | some i =>
      simp only [sliceBounds, HT.sIx, Option.getD_none, show (1 : Int) > 0 by decide, if_true]
      by_cases h : i < 0
      · simp only [h, if_true] <;> omega
      · simp only [h, if_false] <;> omega
theorem slicePick_cut (its : List Value) (lo hi : Option Int) : slicePick its.toArray lo hi none = ((its.drop (HT.sIx its.length 0 lo)).take (HT.sIx its.length its.length hi - HT.sIx its.length 0 lo)).toArray := by
  obtain ⟨h1, h2, h3⟩ := slice_bounds lo hi its.toArray.size
  unfold slicePick
  rw [h1, h2, h3]
  simp only [sliceRange_one, pick_run, List.size_toArray] <;> rfl
noncomputable def rSlL (K : PySem.W.Frag) : V → Option Int → Option Int → Hp → VK → Prop := fun x lo hi H Q => ∃ a xs, x = .ref a ∧ SqL K H a xs ∧ ∀ p, H p = none → Q (.ref p) (upd H p (.lst (cutV xs lo hi)))
theorem sl_list : SlR X (rSlL X.K) := by
  intro pins s σ H x v vl vu lo hi sl Q I rx hs pl pu h
  obtain ⟨a, xs, rfl, hx, q⟩ := h
  cases rx
  obtain ⟨its, r, ht, hz⟩ := I.list hx
  have hlen := r.length
  refine ⟨"list", _, slot_list_getitem.lookup, ht.isList.typeIs, ?_⟩
  refine wpAny_getItem_list_slice ht.isList hs pl pu .none (by simp) ?_ (by rw [List.size_toArray] <;> omega)
  rw [slicePick_cut, ← hlen]
  refine ⟨.ref s.heap.objs.size, _, I.laid (t' := s.toks) (o := .lst (cutV xs lo hi)) (fun b ob q => Heap.get?_push_of_some _ q) (Nat.le_refl _) ?_, rfl, q _ (I.hok.fresh (Nat.le_refl _))⟩
  exact ⟨Nat.le_trans (cutV_length xs lo hi) hz, _, 0, (r.drop (HT.sIx xs.length 0 lo)).take (HT.sIx xs.length xs.length hi - HT.sIx xs.length 0 lo), Heap.get?_push_size _ rfl⟩

theorem call_len_seq : CallR X (.builtin "len") (fun xs H Q => ∃ p ys, xs = [.ref p] ∧ (SqL X.K H p ys ∨ SqT X.K H p ys) ∧ Q (.int ys.length) H) := by
  intro pins s σ H xs us Q I r h
  obtain ⟨p, ys, rfl, hq, q⟩ := h
  obtain ⟨u, rfl, rx⟩ := vals1 r
  cases rx
  have hn := line63
  rcases hq with hq | hq
  · obtain ⟨its, r', pl, hz⟩ := I.list hq
    have hlen := r'.length
    exact Calls.call_len_list pl.isList (by simp only [List.size_toArray] <;> omega) ⟨.int ys.length, H, I.tok _, ⟨s.toks + 1, by rw [List.size_toArray, hlen]⟩, q⟩
  · obtain ⟨its, r', pl, hz⟩ := I.tuple hq
    have hlen := r'.length
    exact len_tuple pl (by simp only [List.size_toArray] <;> omega) ⟨.int ys.length, H, I.tok _, ⟨s.toks + 1, by rw [List.size_toArray, hlen]⟩, q⟩
theorem call_len_str : CallR X (.builtin "len") (fun xs H Q => ∃ z, xs = [.str z] ∧ z.length ≤ sizeLine ∧ Q (.int z.length) H) := by
  intro pins s σ H xs us Q I r h
  obtain ⟨z, rfl, hz, q⟩ := h
  obtain ⟨u, rfl, t, rfl⟩ := vals1 r
  have hn := line63
  exact len_str (by omega) ⟨.int z.length, H, I.tok _, ⟨_, rfl⟩, q⟩
theorem call_tuple_of : CallR X (.type "tuple") (fun xs H Q => ∃ p ys, xs = [.ref p] ∧ ((SqL X.K H p ys ∧ ∀ l, H l = none → Q (.ref l) (upd H l (.tup ys))) ∨ (SqT X.K H p ys ∧ Q (.ref p) H))) := by
  intro pins s σ H xs us Q I r h
  obtain ⟨p, ys, rfl, h⟩ := h
  obtain ⟨u, rfl, rx⟩ := vals1 r
  cases rx
  rcases h with ⟨hq, q⟩ | ⟨hq, q⟩
  · obtain ⟨its, r', pl, hz⟩ := I.list hq
    have hlen := r'.length
    refine call_tuple_list pl.isList (fun h' kp => ?_) (by simp only [List.size_toArray] <;> omega)
    have I1 : Inv X pins σ H { s with heap := h' } := I.kept (t' := s.toks) kp
    have I2 : Inv X pins σ (upd H h'.objs.size (.tup ys)) { s with heap := h'.push { cls := .type "tuple", data := .seq its.toArray } } :=
      I1.laid (t' := s.toks) (fun b o e => Heap.get?_push_of_some _ e) (Nat.le_refl _) (show ObjOk X.prog X.w _ _ _ (.tup ys) from ⟨hz, its, r', IsTup.new _ _⟩)
    exact ⟨.ref h'.objs.size, _, I2, rfl, q _ (I1.hok.fresh (Nat.le_refl _))⟩
  · obtain ⟨its, r', pl, hz⟩ := I.tuple hq
    exact call_tuple_same pl ⟨.ref p, H, I, rfl, q⟩

noncomputable def tyV (K : PySem.W.Frag) (T : String) (x : V) (H : Hp) : Prop := match x with
  | .str _ => T = "str"
  | .int _ => T = "int"
  | .ref p => (T = "list" ∧ ∃ xs, SqL K H p xs) ∨ (T = "tuple" ∧ ∃ o, K.lookup p = some o ∧ o.cls = .type "tuple" ∧ o.dict = none) ∨
      (T = "dict" ∧ ((∃ kvs, H p = some (.dK kvs)) ∨ ∃ kvs, H p = some (.dT kvs))) ∨ (T = "set" ∧ ∃ S n, H p = some (.set S n))
  | _ => False
theorem tyV_is {pins : List (Addr × Obj)} {σ : St} {H : Hp} {s : Shared} {T : String} {x : V} {v : Value} (I : Inv X pins σ H s) (r : RelV x v) (ty : tyV X.K T x H) :
    s.TypeIs v T ∧ ∀ a, v = .ref a → ∃ ob, s.heap.get? a = some ob ∧ ob.dict = none := by
  cases x with
  | str z =>
    obtain ⟨t, rfl⟩ := r
    cases (show T = "str" from ty)
    exact ⟨typeIs_str s z t, fun _ e => nomatch e⟩
  | int i =>
    obtain ⟨t, rfl⟩ := r
    cases (show T = "int" from ty)
    exact ⟨typeIs_int s i t, fun _ e => nomatch e⟩
  | ref p =>
    cases r
    rcases ty with ⟨rfl, xs, hq⟩ | ⟨rfl, o, hk, hc, hd⟩ | ⟨rfl, hk⟩ | ⟨rfl, S, n, hk⟩
    · obtain ⟨its, _, pl, _⟩ := I.list hq
      refine ⟨pl.isList.typeIs, fun a e => ?_⟩
      cases e
      obtain ⟨o, n, e, c, hd, _⟩ := pl
      exact ⟨o, e, hd⟩
    · refine ⟨⟨o, I.kIn p o hk, hc⟩, fun a e => ?_⟩
      cases e
      exact ⟨o, I.kIn _ o hk, hd⟩
    · have z : ∃ o, s.heap.get? p = some o ∧ o.ExactDict := by
        rcases hk with ⟨kvs, hk⟩ | ⟨kvs, hk⟩
        · obtain ⟨_, _, _, _, o, _, _, e, ex, _⟩ := I.hok p _ hk
          exact ⟨o, e, ex⟩
        · obtain ⟨_, _, _, _, o, _, _, e, ex, _⟩ := I.hok p _ hk
          exact ⟨o, e, ex⟩
      obtain ⟨o, e, ex⟩ := z
      refine ⟨⟨o, e, ex.1⟩, fun a e2 => ?_⟩
      cases e2
      exact ⟨o, e, ex.2.1⟩
    · obtain ⟨o, _, _, _, e, ex, _⟩ := I.hok p _ hk
      refine ⟨⟨o, e, ex.1⟩, fun a e2 => ?_⟩
      cases e2
      exact ⟨o, e, ex.2.1⟩
  | _ => exact False.elim ty
noncomputable def tBM0 (K : PySem.W.Frag) (T : String) (r : V → List V → Hp → VK → Prop) (to : TE) : TE := fun σ H Q => to σ H fun x H1 => tyV K T x H1 ∧ r x [] H1 Q
noncomputable def tBM (K : PySem.W.Frag) (T : String) (r : V → List V → Hp → VK → Prop) (to : TE) (t : TA) : TE := fun σ H Q => to σ H fun x H1 => tyV K T x H1 ∧ t σ H1 fun xs H2 => r x xs H2 Q
variable {o e : Expr} {es : List Expr} {to : TE} {t : TA} {name : Str} {apos cpos : Pos} {T id : String} {r : V → List V → Hp → VK → Prop}
theorem pe_bm0 (pa : PlainAttrs T) (slot : Slot T name id) (hty : typeOf (.builtin id) = pure (.type "method_descriptor")) (hm : MtR X id r) (ho : PE X o to)
    (hbase : attributeBase o name X.env (eval o X.env) = eval o X.env := by rfl) (hline : (apos.endLine == cpos.line) = true := by rfl) : PE X (.Call (.Attribute o name apos) [] [] cpos) (tBM0 X.K T r to) := by
  intro pins s σ H Q I h
  refine wpAny_Call_method0_late hbase hline (thn (ho pins s σ H _ I h) fun v s1 ⟨x, H1, I1, r1, ty, q1⟩ => ?_)
  obtain ⟨h1, h2⟩ := tyV_is I1 r1 ty
  exact ⟨T, id, pa, slot, hty, h1, h2, Calls.callWith_builtin rfl (PySem.evalArgs_none (hm pins s1 σ H1 x [] v [] Q I1 r1 .nil q1))⟩
theorem pe_bm (pa : PlainAttrs T) (slot : Slot T name id) (hty : typeOf (.builtin id) = pure (.type "method_descriptor")) (hm : MtR X id r) (ho : PE X o to) (ha : PA X (e :: es) t)
    (hbase : attributeBase o name X.env (eval o X.env) = eval o X.env := by rfl)
    (hfew : ((backTo cpos (starEach (e :: es) X.env)).all (fun x => !x.1) && (backToKw cpos (keywordEach [] X.env)).all (fun x => x.1.isSome)
      && decide ((e :: es).length + ([] : List Keyword).length + (if ([] : List Keyword).isEmpty then 0 else 1) < 30)) = true := by rfl)
    (hline : (apos.endLine == cpos.line) = true := by rfl) (hs : starEach (e :: es) X.env = (false, eval e X.env) :: starEach es X.env := by rfl) (hplain : (backTo cpos (starEach es X.env)).any (·.1) = false := by rfl) :
    PE X (.Call (.Attribute o name apos) (e :: es) [] cpos) (tBM X.K T r to t) := by
  intro pins s σ H Q I h
  refine wpAny_Call_method_late hbase hfew hline rfl (thn (ho pins s σ H _ I h) fun v s1 ⟨x, H1, I1, r1, ty, q1⟩ => ?_)
  obtain ⟨h1, h2⟩ := tyV_is I1 r1 ty
  refine ⟨T, id, pa, slot, hty, h1, h2, ?_⟩
  have hA := ha cpos pins s1 σ H1 _ I1 q1
  rw [hs] at hA ⊢
  refine Calls.callWith_builtin (by show (false || (backTo cpos (starEach es X.env)).any (·.1)) = false; rw [hplain] <;> rfl) (Calls.evalArgs_plain ?_)
  exact thn hA fun us s2 ⟨vs, H2, I2, r2, q2⟩ => hm pins s2 σ H2 x vs v us Q I2 r1 r2 q2
/- xs.append(e), list.index on a module's tuple .. are MtR facts of 06m -/
end
end L2

namespace L2
open PySem PySem.Spec PyProof.Rows

noncomputable def MtM (X : Cx) (id : String) (r : V → List V → Hp → VK → Prop) : Prop :=
  ∀ (pins : List (Addr × Obj)) (s : Shared) (σ : St) (H : Hp) (x : V) (xs : List V) (v : Value) (us : List Value) (Q : VK), Inv X pins σ H s → RelV x v → Vals xs us → r x xs H Q →
    wpAny (model X.prog X.w) X.A (call (.builtin id) (v :: us)) (EP X pins σ Q) X.xe s

theorem Vals.one : ∀ {x : V} {us : List Value}, Vals [x] us → ∃ u, us = [u] ∧ RelV x u
  | _, _, .cons r .nil => ⟨_, rfl, r⟩
theorem Vals.two : ∀ {x y : V} {us : List Value}, Vals [x, y] us → ∃ u v, us = [u, v] ∧ RelV x u ∧ RelV y v
  | _, _, _, .cons r (.cons q .nil) => ⟨_, _, rfl, r, q⟩
theorem Vals.zero : ∀ {us : List Value}, Vals [] us → us = []
  | _, .nil => rfl
theorem Vals.reverse {xs : List V} {us : List Value} (h : Vals xs us) : Vals xs.reverse us.reverse := by
  induction h with
  | nil => exact .nil
  | cons r t ih => rw [List.reverse_cons, List.reverse_cons]; exact Vals.append ih (.cons r .nil)
section
variable {X : Cx} {pins : List (Addr × Obj)} {σ : St} {H : Hp} {s : Shared} {l b : Addr} {xs ys zs : List V}

theorem Inv.lset {its its' : List Value} {n : Nat} {f : Array Value → Array Value} {t' : Nat} (I : Inv X pins σ H s) (hH : H l = some (.lst xs))
    (e : s.heap.get? l = some { cls := .type "list", data := .seq its.toArray n }) (hf : f its.toArray = its'.toArray) (hv : Vals ys its') (hz : ys.length ≤ sizeLine) :
    Inv X pins σ (upd H l (.lst ys)) { s with heap := s.heap.update l (Obj.mapSeq f), toks := t' } := by
  have q := PySem.IsL.update e f
  rw [hf] at q
  refine I.write (x := l) (e := l) (by rw [hH]; exact trivial) (.inl rfl) (fun b' u hb hu => (Heap.get?_update_other s.heap (Obj.mapSeq f) (Ne.symm hb)).trans hu) ⟨_, q⟩ ?_
  exact ⟨hz, its', _, hv, q⟩
theorem Inv.lnew {its : List Value} {t' : Nat} (I : Inv X pins σ H s) (hv : Vals ys its) (hz : ys.length ≤ sizeLine) :
    Inv X pins σ (upd H s.heap.objs.size (.lst ys)) { s with heap := s.heap.push { cls := .type "list", data := .seq its.toArray }, toks := t' } :=
  I.laid (fun _ _ q => Heap.get?_push_of_some _ q) (Nat.le_refl _) ⟨hz, its, 0, hv, Heap.get?_push_size _ rfl⟩
theorem Inv.fresh (I : Inv X pins σ H s) : H s.heap.objs.size = none := I.hok.fresh (Nat.le_refl _)
theorem Inv.lstM (I : Inv X pins σ H s) (hH : H l = some (.lst xs)) : xs.length ≤ sizeLine ∧ ∃ (its : List Value) (n : Nat), Vals xs its ∧ xs.length = its.length ∧ s.heap.get? l = some { cls := .type "list", data := .seq its.toArray n } := by
  obtain ⟨z, its, n, r, e⟩ := I.hok l _ hH
  exact ⟨z, its, n, r, r.length, e⟩

end

section
variable {X : Cx}

noncomputable def rAppend : V → List V → Hp → VK → Prop := fun x vs H Q => ∃ l xs y, x = .ref l ∧ vs = [y] ∧ H l = some (.lst xs) ∧ xs.length < sizeLine ∧ Q .non (upd H l (.lst (xs ++ [y])))
theorem mt_append : MtM X "list.append" rAppend := by
  intro pins s σ H x vs v us Q I rx rv h
  obtain ⟨l, xs, y, rfl, rfl, hH, hz, q⟩ := h
  cases rx
  obtain ⟨u, rfl, ru⟩ := rv.one
  obtain ⟨z, its, n, r, hl, e⟩ := I.lstM hH
  refine call_meets F.slot_list_append ⟨_, e, rfl⟩ F.entry_list_append (F.args_list_append_2 _ _) (PySem.list_append l its.toArray n u (by rw [List.size_toArray]; omega)) ⟨e, ?_⟩
  refine ⟨.non, _, I.lset (its' := its ++ [u]) hH e (by simp) (r.append (.cons ru .nil)) ?_, rfl, q⟩
  rw [List.length_append, List.length_singleton]
  omega

noncomputable def rReverse : V → List V → Hp → VK → Prop := fun x vs H Q => ∃ l xs, x = .ref l ∧ vs = [] ∧ H l = some (.lst xs) ∧ Q .non (upd H l (.lst xs.reverse))
theorem mt_reverse : MtM X "list.reverse" rReverse := by
  intro pins s σ H x vs v us Q I rx rv h
  obtain ⟨l, xs, rfl, rfl, hH, q⟩ := h
  cases rx
  have hus := rv.zero
  subst hus
  obtain ⟨z, its, n, r, hl, e⟩ := I.lstM hH
  refine call_meets F.slot_list_reverse ⟨_, e, rfl⟩ F.entry_list_reverse (F.args_list_reverse_1 _) (AutoSeq1.list_reverse_list_0 l its.toArray n (by rw [List.size_toArray]; omega)) ⟨e, ?_⟩
  refine ⟨.non, _, I.lset (its' := its.reverse) hH e (by simp) r.reverse ?_, rfl, q⟩
  rw [List.length_reverse]
  omega

noncomputable def rCat : R2 := fun x y H Q => ∃ l b xs zs, x = .ref l ∧ y = .ref b ∧ H l = some (.lst xs) ∧ H b = some (.lst zs) ∧ xs.length + zs.length ≤ sizeLine ∧ ∀ p, H p = none → Q (.ref p) (upd H p (.lst (xs ++ zs)))
theorem op_cat : OpR X (binaryOp .Add) rCat := by
  intro pins s σ H x y v u Q I rx ry h
  obtain ⟨l, b, xs, zs, rfl, rfl, hH, hB, hz, q⟩ := h
  cases rx
  cases ry
  obtain ⟨z, its, n, r, hl, e⟩ := I.lstM hH
  obtain ⟨z2, its2, n2, r2, hl2, e2⟩ := I.lstM hB
  refine PySem.P.add_list e e2 ?_ (by rw [List.size_toArray, List.size_toArray]; omega)
  have ea : its.toArray ++ its2.toArray = (its ++ its2).toArray := by simp
  rw [ea]
  exact ⟨.ref _, _, I.lnew (t' := s.toks) (r.append r2) (by rw [List.length_append]; omega), rfl, q _ I.fresh⟩
end

section
variable {prog : Program} {w : World} {A : Around} {E : Value → Shared → Prop} {s : Shared}
end

section
variable {X : Cx}
end
end L2

namespace Att
open PySem PySem.W PySem.Calls PyProof.Rows

theorem ints_of_wellAll {P : Params} {h : Heap} : ∀ (ns : List Int) (vs : List Value), WellAll P h vs (ns.map WData.int) → IntsAre vs ns := by
  intro ns
  induction ns with
  | nil =>
    intro vs w
    rw [List.map_nil] at w
    cases w
    exact .nil
  | cons n ns ih =>
    intro vs w
    rw [List.map_cons] at w
    cases w with
    | cons a b =>
      cases a
      exact .cons _ _ (ih _ b)

theorem script_of {l : OpenLaw} {n : Nat} (hn : l.most = some n) {P : Params} {h : Heap} {args : List WData} {vals : List Value}
    (hpre : l.row.toRowW.claim.pre args = true) (hwl : WellAll P h vals args) :
    ∃ a vs ns, vals = [Value.ref a] ∧ args = [WData.list (ns.map WData.int)] ∧ h.get? a = some { cls := .type "list", data := .seq vs.toArray } ∧ IntsAre vs ns ∧ ns.length ≤ n := by
  have hsh : WShape.hasAll [] args [.list .int] = true := (pre_splitW hpre).1
  have hc : l.pre.holds [] { args := args } = true := (pre_splitW hpre).2
  obtain ⟨d, r, rfl, h1, h2⟩ := hasAllW_cons hsh
  obtain rfl := hasAllW_nil h2
  obtain ⟨xs, rfl, h3⟩ := hasW_list h1
  obtain ⟨ns, rfl⟩ := items_int h3
  have hlen : ns.length ≤ n := by
    unfold OpenLaw.pre at hc
    have h4 : (WTm.not (.lt (.lit (.int (n : Int))) (.len (.arg 0)))).holds [] { args := [.list (ns.map .int)] } = true := by
      have h4 := (holds_andW hc).1
      rw [hn] at h4
      exact h4
    have h5 := condW_of h4 (w_not (w_lt w_lit (w_len_list (w_arg rfl))))
    rw [List.length_map] at h5
    refine Nat.le_of_not_lt fun q => ?_
    have q' : (n : Int) < ((ns.length : Nat) : Int) := by omega
    first
      | (rw [decide_eq_true q'] at h5; exact absurd h5 (by decide))
      | (simp at h5; omega)
  cases hwl with
  | cons w1 w2 =>
    cases w2
    cases w1 with
    | list ho hall => exact ⟨_, _, ns, rfl, rfl, ho, ints_of_wellAll ns _ hall, hlen⟩

theorem post_true (l : OpenLaw) (args : List WData) : l.row.toRowW.claim.post args (.bool true) args = true :=
  postW_of (r := l.row.toRowW) (X := (true == true))
    (show WShape.has [] (.bool true) .bool = true by first | rfl | decide | simp [WShape.has, WShape.arms, WShape.armsAll])
    (show (WTm.eq .res (.lit (.bool true))).value [] { args := args, res := some (.bool true), after := args } = some (.bool (true == true)) from w_eq_bool (w_res rfl) w_lit) rfl

theorem attach_call {l : OpenLaw} {n : Nat} {q : Program} {loose : List Str} {XP : (Str → Option Value) → Heap → Prop} {YP : World → Heap → Prop} {d : DefRec}
    (hn : l.most = some n) (hdf : d.params.defaults = [])
    (call : ∀ (w : World) (s₀ s₁ : Shared) (mg mb : Str → Option Value) (fa : Addr) (o : Obj) (pm cd doc : Value) (a : Addr) (vs : List Value) (ns : List Int),
      Ground q loose [] XP w s₀ mg mb s₁.heap → YP w s₁.heap →
      s₁.heap.get? fa = some o → o.data = .func (docDef d.name d.params d.body d.scope pm cd doc) → s₁.heap.CodeRec cd d.name → mg d.name = some (.ref fa) →
      s₁.heap.get? a = some { cls := .type "list", data := .seq vs.toArray } → IntsAre vs ns → ns.length ≤ n → s₁.gens = #[] →
      codeAny (model l.prog w) callerA (.call (.ref fa) ⟨[.ref a], []⟩) (fun r s' => r = .ok (.ret (.bool true)) ∧ OldK s₁.heap s'.heap ∧ s'.os = s₁.os ∧ AllBare s'.gens) s₁) :
    WalkO q loose XP YP l.row.toRowW d [] (fun f vs => PySem.call f vs) := by
  intro w s₀ s₁ mg mb G Y fa o pm cd doc dV kV ho hd hcd hD hmg hg args vals as hpre hlay hrd hwl hlo
  obtain rfl : dV = .none := Dflts.none hD hdf
  obtain rfl : kV = .none := Dflts.noKw hD
  obtain ⟨a, vs, ns, rfl, rfl, hobj, hints, hlen⟩ := script_of hn hpre hwl
  refine enter_call (codeAny_mono (call w s₀ s₁ mg mb fa o pm cd doc a vs ns G Y ho (fd_plain hd) hcd hmg hobj hints hlen hg) fun r s' hq => ?_)
  obtain ⟨rfl, h2, h3, h4⟩ := hq
  exact ⟨.inl ⟨.bool true, .bool true, [], rfl, fun _ => rfl, .bool true, post_true l _, fun _ => ⟨List.Pairwise.nil, fun _ hm => (nomatch hm)⟩⟩, h2, h3, h4⟩

section
variable {prog : Program} {w : World} {A : Around} {E : Value → Shared → Prop} {s : Shared} {K : Frag}

end
end Att

namespace L2
open PySem PySem.Spec PyProof.Rows

theorem vals_ints : ∀ {vs : List Value} {ns : List Int}, IntsAre vs ns → Vals (ns.map V.int) vs
  | _, _, .nil => .nil
  | _, _, .cons n t h => .cons ⟨t, rfl⟩ (vals_ints h)

noncomputable def Only (H : Hp) : Prop := ∀ b, H b = none ∨ ∃ o xs, H b = some (.frz o (.lst xs))

theorem law_call {P : Program} {w : World} {K : PySem.W.Frag} {mg mb : Str → Option Value} {CX : CXT} {k : Nat} {fa a : Addr} {fd : FuncData} {x : Str} {sp : Sp} {s₁ : Shared} {vs : List Value} {ns : List Int}
    (KX : K.In s₁.heap) (hns : s₁.heap.Ns mainGlobals mg) (hb : s₁.heap.Ns builtinsNs mb) (hbb : ∀ x : Str, x ≠ "__name__" → mb x = bootBuiltins x) (hlim : s₁.heap.NoLimit) (hg : s₁.gens = #[])
    (ha : s₁.heap.get? a = some { cls := .type "list", data := .seq vs.toArray }) (hi : IntsAre vs ns) (hl : ns.length ≤ sizeLine) (hr : Room k callerA)
    (F : ∀ base : Heap, K.In base → base.Ns mainGlobals mg → FnOk P w K mg base CX k fa fd [x] sp) (hbind : ∀ (s : Shared) (u : Value), BindsTo s fd ⟨[u], []⟩ [(x, u)])
    (hsp : ∀ H : Hp, Only H → SqL K H a (ns.map V.int) → sp [.ref a] H (fun v _ => v = .bl true) fun _ _ _ => False)
    (hCX : ∀ H e s', CX [] H s₁ (fun _ _ _ => False) e s' → False) :
    codeAny (model P w) callerA (.call (.ref fa) ⟨[.ref a], []⟩) (fun r s' => r = .ok (.ret (.bool true)) ∧ OldK s₁.heap s'.heap ∧ s'.os = s₁.os ∧ AllBare s'.gens) s₁ := by
  have rv := vals_ints hi
  have lenV := hi.length
  have core : ∀ H : Hp, Only H → SqL K H a (ns.map V.int) → HOk P w H s₁.heap → (∀ b, H b ≠ none → b = a) → (H a ≠ none → K.lookup a = none) →
      codeAny (model P w) callerA (.call (.ref fa) ⟨[.ref a], []⟩) (fun r s' => r = .ok (.ret (.bool true)) ∧ OldK s₁.heap s'.heap ∧ s'.os = s₁.os ∧ AllBare s'.gens) s₁ := by
    intro H hO hS hok hA hK
    have base_of : ∀ {b : Addr} {o : Obj}, s₁.heap.get? b = some o → H b = none → (hidT s₁.heap H).get? b = some o := fun e n => hidT_get e n
    have noA : ∀ {b : Addr} {o : Obj} {es : Array DictEntry} {ep : Nat}, s₁.heap.get? b = some o → o.data = .dict es ep → H b = none := fun {b o es ep} e d => by
      cases q : H b with
      | none => rfl
      | some u =>
        have e' : b = a := hA b (by rw [q]; simp)
        subst e'
        rw [ha] at e; cases e
        have d' : Data.seq vs.toArray _ = Data.dict es ep := d
        cases d'
    have nsK : ∀ {b : Addr} {m : Str → Option Value}, s₁.heap.Ns b m → (hidT s₁.heap H).Ns b m := fun {b m} ⟨o, es, ep, e, d, r⟩ => ⟨o, es, ep, base_of e (noA e d), d, r⟩
    have hKb : K.In (hidT s₁.heap H) := fun b o e => base_of (KX b o e) (by
      cases q : H b with
      | none => rfl
      | some u =>
        have e' : b = a := hA b (by rw [q]; simp)
        subst e'
        rw [hK (by rw [q]; simp)] at e; cases e)
    have hM : Mod K mg (hidT s₁.heap H) := ⟨hKb, nsK hns, ⟨mb, nsK hb, hbb⟩, let ⟨mc, h1, h2⟩ := hlim; ⟨mc, nsK h1, h2⟩⟩
    have e0 : Env0 P w K mg (hidT s₁.heap H) callerA [] s₁ H := ⟨rfl, hM, fun b o e => of_hidT e, Nat.le_of_eq (hidT_size _ _), trivial, fun b hb => absurd (show b ∈ ([] : List Addr) from hb) (by simp), hok, .of_eq hg⟩
    refine codeAny_mono ((F _ hKb (nsK hns)).run callerA [] s₁ H ⟨[.ref a], []⟩ [.ref a] [.ref a] _ _ hr e0 (hbind s₁ (.ref a)) (.cons rfl .nil) (hsp H hO hS)) fun r s' h => ?_
    cases r with
    | error e => exact (hCX H e s' h).elim
    | ok fl =>
      cases fl with
      | next => exact False.elim h
      | brk => exact False.elim h
      | cont => exact False.elim h
      | ret u =>
        obtain ⟨v, H', os, bare, un, hok', r', q⟩ := h
        have q' : v = .bl true := q
        subst q'
        obtain rfl : u = Value.bool true := r'
        refine ⟨rfl, OldK.of_keep fun b o e => ?_, os, bare⟩
        cases q : H b with
        | none => exact un.keep b o e q (by intro z; exact absurd (show b ∈ ([] : List Addr) from z) (by simp)) (by simp)
        | some u =>
          rcases hO b with z | ⟨ob, xs, z⟩
          · rw [q] at z; cases z
          · have z2 := un.frzs b ob _ z
            obtain ⟨e1, _⟩ := hok b _ z
            obtain ⟨e2, _⟩ := hok' b _ z2
            rw [e] at e1; cases e1
            exact e2
  cases hk : K.lookup a with
  | some o =>
    have e := KX a o hk
    rw [ha] at e
    cases e
    refine core (fun _ => none) (fun _ => .inl rfl) (.inr ⟨_, vs.toArray, _, hk, rfl, rfl, rfl, by rw [List.size_toArray, lenV]; exact hl, by simpa using rv⟩) (fun b u z => by have z' : (none : Option HO) = some u := z; cases z') (fun b z => absurd rfl z) fun z => absurd rfl z
  | none =>
    refine core (fun b => if b = a then some (.frz { cls := .type "list", data := .seq vs.toArray } (.lst (ns.map V.int))) else none) (fun b => ?_) (.inl (.inr ⟨{ cls := .type "list", data := .seq vs.toArray }, if_pos rfl⟩)) (fun b u z => ?_) (fun b z => ?_) fun _ => hk
    · by_cases hb : b = a
      · exact .inr ⟨_, _, if_pos hb⟩
      · exact .inl (if_neg hb)
    · by_cases hb : b = a
      · have z' := (if_pos hb).symm.trans z
        cases z'
        subst hb
        exact ⟨ha, by rw [List.length_map]; exact hl, vs, _, rv, ha⟩
      · have z' := (if_neg hb).symm.trans z
        cases z'
    · by_cases hb : b = a
      · exact hb
      · exact absurd (if_neg hb) z
end L2

namespace L2
open PySem PySem.Spec PyProof.Rows

noncomputable abbrev KOf {K : PySem.W.Frag} {h : Heap} (_ : K.In h) : PySem.W.Frag := K

theorem walk_of {l : PySem.W.OpenLaw} {n k : Nat} {q : Program} {loose : List Str} {XP : (Str → Option Value) → Heap → Prop} {YP : World → Heap → Prop} {d : DefRec} {K : Params → PySem.W.Frag} {CX : World → CXT} {sp : World → Sp} {x : Str}
    (hn : l.most = some n) (hn2 : n ≤ sizeLine) (hdf : d.params.defaults = []) (hr : Room k callerA)
    (hY : ∀ (w : World) (h : Heap), YP w h → (K w.params).In h)
    (F : ∀ (w : World) (mg : Str → Option Value) (fa : Addr) (h : Heap), (K w.params).In h → h.Ns mainGlobals mg → mg d.name = some (.ref fa) →
      ∃ fd : FuncData, (∀ (s : Shared) (u : Value), BindsTo s fd ⟨[u], []⟩ [(x, u)]) ∧
        ∀ base : Heap, (K w.params).In base → base.Ns mainGlobals mg → FnOk l.prog w (K w.params) mg base (CX w) k fa fd [x] (sp w))
    (hsp : ∀ (w : World) (H : Hp) (a : Addr) (ns : List Int), ns.length ≤ n → Only H → SqL (K w.params) H a (ns.map V.int) → sp w [.ref a] H (fun v _ => v = .bl true) fun _ _ _ => False)
    (hCX : ∀ (w : World) (H : Hp) (s : Shared) (e : Value) (s' : Shared), CX w [] H s (fun _ _ _ => False) e s' → False) :
    PySem.W.WalkO q loose XP YP l.row.toRowW d [] (fun f vs => PySem.call f vs) := by
  refine Att.attach_call hn hdf fun w s₀ s₁ mg mb fa o pm cd doc a vs ns G Y ho hd hcd hmg hobj hints hlen hg => ?_
  have KX := hY w _ Y
  obtain ⟨fd, hb, hF⟩ := F w mg fa _ KX G.T.g hmg
  exact law_call KX G.T.g G.T.b G.T.builtins G.T.nolimit hg hobj hints (Nat.le_trans hlen hn2) hr hF hb (fun H hO hS => hsp w H a ns hlen hO hS) fun H e s' => hCX w H s₁ e s'
end L2

/- THE LAST THEOREM (shape; LID, My.* are yours):
   My.Adr: a structure of the addresses that your layer names (classes, functions); My.Txt K t: a structure (Prop) of the equations over K;
   My.txt_mk : {K} {implicit addresses ..} (e1 : nsIn K mainGlobals "law" = some (some (.ref f))) (e2 : K.lookup f = some ⟨oc, od, .func (fnOf "law" "law" params body scope dV kV doc pm an cdv ct), sl⟩) (e3 : codeIn K cdv "law" = true) .. : ∃ t, My.Txt K t

set_option maxRecDepth 100000 in
set_option maxHeartbeats 0 in
theorem PySem.Challenge.cw_LID_holds : PySem.Challenge.rw_LID.Holds := by
  w_on; o_law; k_head; (case hw => w_witness2)
  k_fill
  refine L2.walk_of (l := PySem.Challenge.rw_LID) (n := 63) (k := 40) (x := "script") (CX := fun w => ..) (sp := fun _ => My.sp_law) rfl (by decide) rfl ⟨rfl, by decide, by decide⟩ (fun w h Y => PySem.W.kIn_of Y) ?F ?S ?C
  case F =>
    intro w mg fa h KX G hmg
    have T : ∃ t, My.Txt (L2.KOf KX) t := by
      dsimp only [L2.KOf]                          -- K must stand as «<heap const> w.params» for k_is
      refine' My.txt_mk ?e1 ?e2 ?e3 ..
      (case e1 => PySem.W.k_is)                    -- in the order: a name -> its address -> its object -> its parts
      (case e2 => PySem.W.k_is)
      ..
    obtain ⟨t, T⟩ := T
    have e0 := hmg.symm.trans (PySem.W.mg_of KX G T.law)
    cases e0                                       -- fa is the law's own address
    exact ⟨_, fun s u => .of_eq rfl, fun base kb nb => My.law_fn T kb nb⟩     -- if «.of_eq rfl» comes too early: refine' ⟨_, ?b, fun base kb nb => My.law_fn T kb nb⟩; exact fun s u => .of_eq rfl
  case S => exact fun w H a ns hl hO hS => ..
  case C => exact ..
(the tactic k_is has no namespace: write k_is) -/

namespace L2
open PySem PySem.Spec PyProof.Rows

noncomputable def defArgs (s : Stmt) : Arguments := match s with
  | .FunctionDef _ a _ _ _ _ _ _ _ _ => a
  | _ => { posonlyargs := [], args := [], vararg := none, kwonlyargs := [], kw_defaults := [], kwarg := none, defaults := [] }
noncomputable def defBody (s : Stmt) : List Stmt := match s with
  | .FunctionDef _ _ b _ _ _ _ _ _ _ => b
  | _ => []
noncomputable def defScope (s : Stmt) : Scope := match s with
  | .FunctionDef _ _ _ _ _ _ sc _ _ _ => sc
  | _ => { kind := .function, names := [], isGenerator := false, isCoroutine := false }

noncomputable abbrev CX0 : CXT := fun _ _ _ _ _ _ => False
noncomputable abbrev E0 : XK := fun _ _ _ => False
theorem pass0 {X : Cx} : Passes CX0 X E0 := fun _ _ _ _ _ _ _ h => h.elim

structure Fun (K : PySem.W.Frag) (x qual : Str) (st : Stmt) (f : Addr) (fd : FuncData) : Prop where
  ex : ∃ (oc : Value) (od : Option Addr) (kV doc pm : Value) (an : Option Addr) (cdv ct : Value) (osl : Array (Option Value)),
    fd = PySem.W.fnOf x qual (defArgs st) (defBody st) (defScope st) .none kV doc pm an cdv ct ∧ K.lookup f = some ⟨oc, od, .func fd, osl⟩ ∧ PySem.W.codeIn K cdv qual = true
  kp : PySem.W.keepIn K (.ref f) = true
section
variable {P : Program} {w : World} {K : PySem.W.Frag} {mg : Str → Option Value} {base : Heap}
theorem Fun.ok {x qual : Str} {st : Stmt} {f : Addr} {fd : FuncData} {N ps : List Str} {k : Nat} {sp : Sp} (F : Fun K x qual st f fd) (S : FnScope N ps (defScope st)) (len : ∀ vs H Q E, sp vs H Q E → vs.length = ps.length)
    (hbody : ∀ (cdv : Value) (A : Around) (outer : List Env) (s : Shared) (H : Hp) (vs : List V) (Q : VK) (E : XK), Room k (A.deeper (envOfC qual (defScope st) s.heap.objs.size f cdv)) → sp vs H Q E →
      ∃ t, PSs (cxOf CX0 P w K mg base N qual (defScope st) f cdv A outer s H E).nox (defBody st) t ∧ t { nx := fun _ H' => Q .non H', rt := Q } (start N vs) H) : FnOk P w K mg base CX0 (k + 1) f fd ps sp := by
  obtain ⟨oc, od, kV, doc, pm, an, cdv, ct, osl, rfl, lk, hcd⟩ := F.ex
  refine fn_of lk hcd S len fun A outer s H vs Q E hr hsp => ?_
  obtain ⟨t, h, q⟩ := hbody cdv A outer s H vs Q E hr hsp
  exact ⟨t, h.nox, q⟩
theorem Fun.binds {x qual : Str} {st : Stmt} {f : Addr} {fd : FuncData} {ps : List Str} (F : Fun K x qual st f fd)
    (h : ∀ (kV doc pm : Value) (an : Option Addr) (cdv ct : Value) (us : List Value), us.length = ps.length → bindArgs (PySem.W.fnOf x qual (defArgs st) (defBody st) (defScope st) .none kV doc pm an cdv ct) ⟨us, []⟩ = pure (ps.zip us)) : Binds K fd ps [] := by
  obtain ⟨oc, od, kV, doc, pm, an, cdv, ct, osl, rfl, lk, hcd⟩ := F.ex
  exact .all (h kV doc pm an cdv ct)
theorem fun_mk {x qual : Str} {st : Stmt} {f : Addr} {oc : Value} {od an : Option Addr} {osl : Array (Option Value)} {kV doc pm cdv ct : Value} (l : K.lookup f = some ⟨oc, od, .func (PySem.W.fnOf x qual (defArgs st) (defBody st) (defScope st) .none kV doc pm an cdv ct), osl⟩)
    (c : PySem.W.codeIn K cdv qual = true) (k : PySem.W.keepIn K (.ref f) = true) : Fun K x qual st f (PySem.W.fnOf x qual (defArgs st) (defBody st) (defScope st) .none kV doc pm an cdv ct) := ⟨⟨oc, od, kV, doc, pm, an, cdv, ct, osl, rfl, l, c⟩, k⟩
end
theorem small1000 {n : Nat} (h : n ≤ 1000) : n < sizeLine := Nat.lt_of_le_of_lt h (by decide)

section
variable {X : Cx}
theorem pv (i : Nat) {x : Str} {pos : Pos} (hN : X.N[i]? = some x := by rfl) (hv : Vis X.env.scope x := by first | exact Or.inl rfl | exact Or.inr (Or.inl rfl) | exact Or.inr (Or.inr rfl)) (hd : (x == ("__debug__" : Str)) = false := by decide)
    (hcd : (x == ("__classdict__" : Str)) = false := by decide) : PE X (.Name x pos) (tVar i) := pe_var hN hv hd hcd
end

theorem iteF {A B : Prop} (h : B) : if false = true then A else B := by
  rw [if_neg Bool.false_ne_true]
  exact h
theorem iteT {A B : Prop} (h : A) : if true = true then A else B := by
  rw [if_pos rfl]
  exact h
theorem ite2 {c A B : Prop} [Decidable c] (h1 : c → A) (h2 : ¬ c → B) : if c then A else B := by
  by_cases h : c
  · rw [if_pos h]
    exact h1 h
  · rw [if_neg h]
    exact h2 h
noncomputable def Same (H H' : Hp) : Prop := ∀ b o, H b = some o → H' b = some o
theorem Same.trans {H H1 H2 : Hp} (a : Same H H1) (b : Same H1 H2) : Same H H2 := fun c o h => b c o (a c o h)
theorem Same.free {H H' : Hp} (e : Same H H') {l : Addr} (h : H' l = Option.none) : H l = Option.none := by
  cases q : H l with
  | none => rfl
  | some o =>
    rw [e l o q] at h
    cases h
theorem Same.seq {K : PySem.W.Frag} {H H' : Hp} {a : Addr} {xs : List V} (e : Same H H') (h : SqL K H a xs) : SqL K H' a xs := by
  rcases h with (h | ⟨o, h⟩) | h
  · exact .inl (.inl (e _ _ h))
  · exact .inl (.inr ⟨o, e _ _ h⟩)
  · exact .inr h

end L2

section
namespace SH
noncomputable def C : Nat → Nat → Nat
  | _, 0 => 1
  | 0, _ + 1 => 0
  | n + 1, k + 1 => C n k + C n (k + 1)
theorem C_zero (n : Nat) : C n 0 = 1 := by cases n <;> rfl
theorem C_zs (k : Nat) : C 0 (k + 1) = 0 := rfl
theorem C_ss (n k : Nat) : C (n + 1) (k + 1) = C n k + C n (k + 1) := rfl
theorem C_pos : ∀ {n k : Nat}, k ≤ n → 0 < C n k
  | n, 0, _ => by rw [C_zero]; decide
  | 0, k + 1, h => absurd h (by omega)
  | n + 1, k + 1, h => by rw [C_ss]; have := C_pos (show k ≤ n by omega); omega
theorem C_le_succ (n k : Nat) : C n k ≤ C (n + 1) k := by
  cases k with
  | zero => rw [C_zero, C_zero]; exact Nat.le_refl _
  | succ k => rw [C_ss]; exact Nat.le_add_left _ _
theorem C_mono {n m : Nat} (k : Nat) (h : n ≤ m) : C n k ≤ C m k := by
  induction h with
  | refl => exact Nat.le_refl _
  | step _ ih => exact Nat.le_trans ih (C_le_succ _ _)
noncomputable def Fall : Nat → List Nat → Prop
  | _, [] => True
  | b, x :: r => x < b ∧ Fall x r
noncomputable def num : List Nat → Nat
  | [] => 0
  | x :: r => C x (r.length + 1) + num r
theorem Fall.mono : ∀ {b c : Nat} {r : List Nat}, Fall b r → b ≤ c → Fall c r
  | _, _, [], _, _ => trivial
  | _, _, _ :: _, h, l => ⟨Nat.lt_of_lt_of_le h.1 l, h.2⟩
theorem Fall.mem : ∀ {b : Nat} {r : List Nat}, Fall b r → ∀ x ∈ r, x < b
  | _, [], _, _, h => nomatch h
  | b, y :: r, h, x, m => by
    rcases List.mem_cons.mp m with rfl | m
    · exact h.1
    · exact Nat.lt_trans (Fall.mem h.2 x m) h.1
theorem num_lt : ∀ {b : Nat} {r : List Nat}, Fall b r → num r < C b r.length
  | b, [], _ => by show 0 < C b 0; rw [C_zero]; decide
  | b, x :: r, h => by
    have h1 := num_lt h.2
    have h2 : C (x + 1) (r.length + 1) ≤ C b (r.length + 1) := C_mono _ h.1
    rw [C_ss] at h2
    show C x (r.length + 1) + num r < C b (r.length + 1)
    omega
noncomputable def top : Nat → Nat → Nat → Nat
  | 0, _, _ => 0
  | b + 1, k, n => if C b k ≤ n then b else top b k n
noncomputable def greedy : Nat → Nat → Nat → List Nat
  | _, 0, _ => []
  | b, k + 1, n => top b (k + 1) n :: greedy (top b (k + 1) n) k (n - C (top b (k + 1) n) (k + 1))
theorem top_spec : ∀ {b k n : Nat}, n < C b (k + 1) → top b (k + 1) n < b ∧ C (top b (k + 1) n) (k + 1) ≤ n ∧ n < C (top b (k + 1) n + 1) (k + 1)
  | 0, k, n, h => by rw [C_zs] at h; omega
  | b + 1, k, n, h => by
    unfold top
    by_cases q : C b (k + 1) ≤ n
    · rw [if_pos q]; exact ⟨Nat.lt_succ_self _, q, h⟩
    · rw [if_neg q]
      have := top_spec (b := b) (k := k) (n := n) (by omega)
      exact ⟨by omega, this.2⟩
theorem greedy_len : ∀ (k b n : Nat), (greedy b k n).length = k
  | 0, _, _ => rfl
  | k + 1, b, n => by show (greedy _ k _).length + 1 = k + 1; rw [greedy_len]
theorem greedy_ok : ∀ {k b n : Nat}, n < C b k → Fall b (greedy b k n) ∧ num (greedy b k n) = n
  | 0, b, n, h => by rw [C_zero] at h; exact ⟨trivial, by show 0 = n; omega⟩
  | k + 1, b, n, h => by
    obtain ⟨h1, h2, h3⟩ := top_spec h
    rw [C_ss] at h3
    obtain ⟨g1, g2⟩ := greedy_ok (k := k) (b := top b (k + 1) n) (n := n - C (top b (k + 1) n) (k + 1)) (by omega)
    refine ⟨⟨h1, g1⟩, ?_⟩
    show C _ ((greedy _ k _).length + 1) + num (greedy _ k _) = n
    rw [greedy_len, g2]
    omega
noncomputable def ahead : Nat → List Nat → List Nat → Bool
  | 0, _, _ => false
  | n + 1, r, q => if decide (n ∈ r) != decide (n ∈ q) then decide (n ∈ q) else ahead n r q
theorem num_inj : ∀ {n : Nat} {r q : List Nat}, Fall n r → Fall n q → r.length = q.length → num r = num q → r = q
  | n, [], [], _, _, _, _ => rfl
  | n, [], _ :: _, _, _, h, _ => by simp at h
  | n, _ :: _, [], _, _, h, _ => by simp at h
  | n, x :: r, y :: q, hr, hq, hl, hn => by
    have hl' : r.length = q.length := by simpa using hl
    have e1 : num (x :: r) = C x (r.length + 1) + num r := rfl
    have e2 : num (y :: q) = C y (q.length + 1) + num q := rfl
    have a1 := num_lt hr.2
    have a2 := num_lt hq.2
    rw [e1, e2] at hn
    have hxy : x = y := by
      rcases Nat.lt_trichotomy x y with z | z | z
      · have := C_mono (q.length + 1) z
        rw [Nat.succ_eq_add_one, C_ss] at this
        rw [hl'] at hn a1
        omega
      · exact z
      · have := C_mono (r.length + 1) z
        rw [Nat.succ_eq_add_one, C_ss] at this
        rw [← hl'] at hn a2
        omega
    subst hxy
    rw [hl'] at hn
    rw [num_inj hr.2 hq.2 hl' (by omega)]
theorem greedy_num {b k : Nat} {r : List Nat} (h : Fall b r) (hl : r.length = k) : greedy b k (num r) = r := by
  have h0 : num r < C b k := by rw [← hl]; exact num_lt h
  obtain ⟨g1, g2⟩ := greedy_ok h0
  exact num_inj g1 h (by rw [greedy_len, hl]) g2
end SH

end
section
namespace SH
noncomputable def topA (k m : Nat) : Nat := top (m + k + 1) k m
theorem C_grow (k : Nat) : ∀ m : Nat, m < C (m + k + 1) (k + 1)
  | 0 => C_pos (by omega)
  | m + 1 => by
    have h := C_grow k m
    have e : m + 1 + k + 1 = (m + k + 1) + 1 := by omega
    rw [e, C_ss]
    have := C_pos (show k ≤ m + k + 1 by omega)
    omega
noncomputable def ls : Nat → Nat → Nat
  | 0, _ => 0
  | k + 1, m => if m = 0 then 0 else C (topA (k + 1) m) k + ls k (m - C (topA (k + 1) m) (k + 1))
noncomputable def lw : Nat → Nat → Nat
  | 0, _ => 0
  | k + 1, m => if m = 0 then 0 else C (topA (k + 1) m - 1) k + lw k (m - C (topA (k + 1) m) (k + 1))
noncomputable def lo : Nat → Nat → Nat
  | 0, m => m
  | k + 1, m => if m = 0 then 0 else C (topA (k + 1) m - 1) (k + 1) + lo k (m - C (topA (k + 1) m) (k + 1))
noncomputable abbrev Fm := List Bool → Bool
noncomputable def card : Nat → Fm → Nat
  | 0, F => if F [] = true then 1 else 0
  | n + 1, F => card n (fun v => F (true :: v)) + card n (fun v => F (false :: v))
noncomputable def sh : Fm → Fm
  | _, [] => false
  | F, true :: v => sh (fun u => F (true :: u)) v
  | F, false :: v => sh (fun u => F (false :: u)) v || F (true :: v)
noncomputable def wt : List Bool → Nat
  | [] => 0
  | true :: v => wt v + 1
  | false :: v => wt v
noncomputable def Unif (n k : Nat) (F : Fm) : Prop := ∀ v, v.length = n → F v = true → wt v = k
noncomputable def Sub (n : Nat) (F G : Fm) : Prop := ∀ v, v.length = n → F v = true → G v = true
noncomputable def sA : Nat → Fm → Fm → Fm
  | _, A, _, [] => A []
  | 0, A, B, b :: w => (match b with | true => A (true :: w) | false => A (false :: w) || B (true :: w))
  | j + 1, A, B, b :: w => sA j (fun u => A (b :: u)) (fun u => B (b :: u)) w
noncomputable def sB : Nat → Fm → Fm → Fm
  | _, _, B, [] => B []
  | 0, A, B, b :: w => (match b with | true => B (true :: w) && A (false :: w) | false => B (false :: w))
  | j + 1, A, B, b :: w => sB j (fun u => A (b :: u)) (fun u => B (b :: u)) w
end SH

end
section
namespace SH
noncomputable def hp : Nat → Nat → List Nat
  | 0, _ => []
  | k + 1, m => if m = 0 then [] else topA (k + 1) m :: hp k (m - C (topA (k + 1) m) (k + 1))
end SH

end
section
namespace SH
noncomputable def an : Nat → List Nat → Nat
  | _, [] => 0
  | i, x :: xs => C x (i + 1) + an (i + 1) xs
theorem an_app : ∀ (xs ys : List Nat) (i : Nat), an i (xs ++ ys) = an i xs + an (i + xs.length) ys
  | [], ys, i => by show an i ys = 0 + an (i + 0) ys; rw [Nat.zero_add, Nat.add_zero]
  | x :: xs, ys, i => by
    show C x (i + 1) + an (i + 1) (xs ++ ys) = C x (i + 1) + an (i + 1) xs + an (i + (xs.length + 1)) ys
    rw [an_app xs ys (i + 1), show i + 1 + xs.length = i + (xs.length + 1) by omega]; omega
theorem num_an : ∀ r : List Nat, num r = an 0 r.reverse
  | [] => rfl
  | x :: r => by
    rw [List.reverse_cons, an_app, ← num_an r, List.length_reverse, Nat.zero_add]
    show C x (r.length + 1) + num r = num r + (C x (r.length + 1) + 0)
    omega
noncomputable def gre (k m : Nat) : List Nat := greedy (m + k) k m
theorem C_room {k m : Nat} (h : 1 ≤ k) : m < C (m + k) k := by
  obtain ⟨j, rfl⟩ : ∃ j, k = j + 1 := ⟨k - 1, by omega⟩
  exact C_grow j m
theorem gre_eq {b k m : Nat} (hk : 1 ≤ k) (h : m < C b k) : greedy b k m = gre k m := by
  obtain ⟨f1, n1⟩ := greedy_ok h
  obtain ⟨f2, n2⟩ := greedy_ok (C_room (m := m) hk)
  unfold gre
  exact num_inj (n := max b (m + k)) (f1.mono (Nat.le_max_left _ _)) (f2.mono (Nat.le_max_right _ _)) (by rw [greedy_len, greedy_len]) (by rw [n1, n2])
theorem gre_len (k m : Nat) : (gre k m).length = k := greedy_len _ _ _
theorem fall_pw : ∀ {b : Nat} {r : List Nat}, Fall b r → r.Pairwise (· > ·)
  | _, [], _ => .nil
  | _, _ :: _, h => List.pairwise_cons.mpr ⟨fun y hy => h.2.mem y hy, fall_pw h.2⟩
noncomputable def st (k m : Nat) : List Nat := (gre k m).reverse
theorem st_len (k m : Nat) : (st k m).length = k := by rw [st, List.length_reverse, gre_len]
theorem st_up {k m : Nat} (hk : 1 ≤ k) : (st k m).Pairwise (· < ·) := by
  unfold st
  rw [List.pairwise_reverse]
  exact fall_pw (greedy_ok (C_room (m := m) hk)).1
theorem st_num {k m : Nat} (hk : 1 ≤ k) : an 0 (st k m) = m := by
  unfold st
  rw [← num_an]
  exact (greedy_ok (C_room (m := m) hk)).2
end SH

end
section
namespace SH
noncomputable def cut (l : List Nat) (p : Nat) : List Nat := l.take p ++ l.drop (p + 1)
end SH

end
section
namespace SH
noncomputable def rowOf : List Bool → List Nat
  | [] => []
  | true :: v => v.length :: rowOf v
  | false :: v => rowOf v
end SH

end
section
set_option autoImplicit false
set_option autoImplicit false
set_option linter.all false
namespace Tim
open PySem PyProof.Rows

section
variable {M : Model} {A : Around} {E : Value → Shared → Prop} {s : Shared}

structure Ord (M : Model) (A : Around) (E : Value → Shared → Prop) (s : Shared) (kd : SortKind) (Ok : Keyed → Prop) (R : Keyed → Keyed → Bool) : Prop where
  lt : ∀ {x y : Keyed} {st : SortSt} {Q : Option Bool → SortSt → Prop}, Ok x → Ok y → kindOf st = kd → Q (some (R x y)) st → wpS M A E s (lt' x y) Q st
  asymm : ∀ x y, R x y = true → R y x = false
  neg : ∀ x y z, R x z = true → R x y = true ∨ R y z = true

noncomputable def le (R : Keyed → Keyed → Bool) (x y : Keyed) : Prop := R y x = false
variable {kd : SortKind} {Ok : Keyed → Prop} {R : Keyed → Keyed → Bool}
theorem Ord.refl (O : Ord M A E s kd Ok R) (x : Keyed) : le R x x := by
  unfold le
  cases e : R x x with
  | false => rfl
  | true => have := O.asymm x x e; rw [e] at this; cases this
theorem Ord.le_of_lt (O : Ord M A E s kd Ok R) {x y : Keyed} (h : R x y = true) : le R x y := O.asymm x y h
theorem Ord.trans (O : Ord M A E s kd Ok R) {x y z : Keyed} (h1 : le R x y) (h2 : le R y z) : le R x z := by
  unfold le at *
  cases e : R z x with
  | false => rfl
  | true =>
    rcases O.neg z y x e with q | q
    · rw [h2] at q; cases q
    · rw [h1] at q; cases q
theorem Ord.le_lt (O : Ord M A E s kd Ok R) {x y z : Keyed} (h1 : le R x y) (h2 : R y z = true) : R x z = true := by
  rcases O.neg y x z h2 with q | q
  · unfold le at h1; rw [h1] at q; cases q
  · exact q

noncomputable def dk : Keyed := (.none, .none)
noncomputable def g (a : Array Keyed) (i : Nat) : Keyed := (a[i]?).getD dk
theorem g_congr {a b : Array Keyed} {i j : Nat} (h : a[i]? = b[j]?) : g a i = g b j := by unfold g; rw [h]
theorem g_of {a : Array Keyed} {i : Nat} (h : i < a.size) : a[i]? = some (g a i) := by
  unfold g; rw [getElem?_pos a i h]; rfl
noncomputable def All (Ok : Keyed → Prop) (a : Array Keyed) : Prop := ∀ x ∈ a.toList, Ok x
theorem All.at {a : Array Keyed} (h : All Ok a) {i : Nat} (hi : i < a.size) : Ok (g a i) := by
  refine h _ ?_
  have := g_of hi
  rw [← Array.getElem?_toList] at this
  exact List.mem_of_getElem? this
theorem All.perm {a b : Array Keyed} (h : All Ok a) (p : b.Perm a) : All Ok b := fun x hx => h x ((Array.perm_iff_toList_perm.mp p).mem_iff.mp hx)
noncomputable def Srt (R : Keyed → Keyed → Bool) (a : Array Keyed) (lo hi : Nat) : Prop := ∀ i j, lo ≤ i → i ≤ j → j < hi → le R (g a i) (g a j)
noncomputable def Dec (R : Keyed → Keyed → Bool) (a : Array Keyed) (lo hi : Nat) : Prop := ∀ i j, lo ≤ i → i ≤ j → j < hi → le R (g a j) (g a i)
structure Stir (a b : Array Keyed) (lo hi : Nat) : Prop where
  perm : b.Perm a
  keep : ∀ k, (k < lo ∨ hi ≤ k) → b[k]? = a[k]?
theorem Stir.refl (a : Array Keyed) (lo hi : Nat) : Stir a a lo hi := ⟨Array.Perm.refl _, fun _ _ => rfl⟩
theorem Stir.trans {a b c : Array Keyed} {lo hi : Nat} (h1 : Stir a b lo hi) (h2 : Stir b c lo hi) : Stir a c lo hi := ⟨h2.perm.trans h1.perm, fun k hk => (h2.keep k hk).trans (h1.keep k hk)⟩
theorem Stir.mono {a b : Array Keyed} {lo hi lo' hi' : Nat} (h : Stir a b lo hi) (h1 : lo' ≤ lo) (h2 : hi ≤ hi') : Stir a b lo' hi' := ⟨h.perm, fun k hk => h.keep k (by omega)⟩
theorem Stir.size {a b : Array Keyed} {lo hi : Nat} (h : Stir a b lo hi) : b.size = a.size := h.perm.size_eq
theorem Stir.srt {a b : Array Keyed} {lo hi lo' hi' : Nat} (h : Stir a b lo hi) (hs : Srt R a lo' hi') (hd : hi' ≤ lo ∨ hi ≤ lo') : Srt R b lo' hi' := fun i j h1 h2 h3 => by
  rw [g_congr (h.keep i (by omega)), g_congr (h.keep j (by omega))]
  exact hs i j h1 h2 h3

theorem wpS_at (O : Ord M A E s kd Ok R) {st : SortSt} {i j : Nat} {Q : Option Bool → SortSt → Prop} (hk : kindOf st = kd) (hA : All Ok (arrOf st)) (hi : i < (arrOf st).size) (hj : j < (arrOf st).size)
    (h : Q (some (R (g (arrOf st) i) (g (arrOf st) j))) st) : wpS M A E s (ltAt' i j) Q st := by
  rw [ltAt'_eq]
  refine wpS_bind (wpS_get ?_)
  show wpS _ _ _ _ (elem' (arrOf st) i >>= fun x => elem' (arrOf st) j >>= fun y => lt' x y) Q st
  rw [elem'_eq, elem'_eq, g_of hi, g_of hj]
  exact wpS_bind (wpS_pure (wpS_bind (wpS_pure (O.lt (hA.at hi) (hA.at hj) hk h))))
theorem wpS_rev {st : SortSt} {i j : Nat} {Q : Unit → SortSt → Prop} (h : Q () (setArr st (mirror (arrOf st) i j ((j - i) / 2)))) : wpS M A E s (reverseSlice' i j) Q st := by
  rw [reverseSlice'_eq]
  exact wpS_modify h
theorem stir_mirror {a : Array Keyed} {i j : Nat} (hj : j ≤ a.size) : Stir a (mirror a i j ((j - i) / 2)) i j :=
  ⟨mirror_perm _ _ _ _, fun k hk => by rw [getElem?_mirror_all hj, if_neg (by (clear hj; omega))]⟩
theorem g_mirror {a : Array Keyed} {i j k : Nat} (hj : j ≤ a.size) (h1 : i ≤ k) (h2 : k < j) : g (mirror a i j ((j - i) / 2)) k = g a (i + j - 1 - k) := by
  apply g_congr
  rw [getElem?_mirror_all hj, if_pos ⟨h1, h2⟩]

theorem wpS_asc (O : Ord M A E s kd Ok R) {st : SortSt} {lo n nrem : Nat} {Q : Option (Option Nat) × Nat → SortSt → Prop} (hk : kindOf st = kd) (hA : All Ok (arrOf st)) (h1 : 1 ≤ n) (hn : n ≤ nrem) (hsz : lo + nrem ≤ (arrOf st).size)
    (hs : Srt R (arrOf st) lo (lo + n))
    (h : ∀ m, n ≤ m → m ≤ nrem → Srt R (arrOf st) lo (lo + m) → (m < nrem → R (g (arrOf st) (lo + m)) (g (arrOf st) (lo + m - 1)) = true) → Q (none, m) st)
    {f : Nat → Option (Option Nat) × Nat → StateT SortSt Sem (ForInStep (Option (Option Nat) × Nat))}
    (hf : ∀ x c, f x c = (do
      let r ← ltAt' (lo + c.2) (lo + c.2 - 1)
      match r with
      | some smaller => if smaller = true then pure (ForInStep.done (none, c.2)) else pure (ForInStep.yield (none, c.2 + 1))
      | _ => pure (ForInStep.done (some none, c.2)))) : wpS M A E s (forIn [n:nrem] (none, n) f) Q st := by
  refine wpS_forRange (I := fun x c st' => st' = st ∧ c = (none, x) ∧ x ≤ nrem ∧ Srt R (arrOf st) lo (lo + x)) ?_ ?_ ⟨rfl, rfl, hn, hs⟩
  · rintro x c st' hx1 hx2 ⟨rfl, rfl, hx, hs'⟩
    rw [hf]
    try dsimp only
    refine wpS_bind (wpS_at O hk hA (by (clear hx hx1 hn h1; omega)) (by (clear hx hx1 hn h1; omega)) ?_)
    cases e : R (g (arrOf st') (lo + x)) (g (arrOf st') (lo + x - 1)) with
    | true =>
      try dsimp only
      rw [if_pos rfl]
      exact wpS_pure (h x hx1 (by (clear hx hsz hx1 hn h1; omega)) hs' fun _ => e)
    | false =>
      try dsimp only
      rw [if_neg Bool.false_ne_true]
      refine wpS_pure ⟨rfl, rfl, by (clear hx hsz hx1 hn h1; omega), fun i j a b c => ?_⟩
      by_cases hj : j < lo + x
      · exact hs' i j a b hj
      · have ej : j = lo + x := by (clear b a hx hsz hx2 hx1 hn h1; omega)
        subst ej
        by_cases hi : i = lo + x
        · subst hi; exact O.refl _
        · exact O.trans (hs' i (lo + x - 1) a (by (clear hj c a hx hsz hx2 hx1 hn h1; omega)) (by (clear hi hj c b a hx hsz hx2 hn; omega))) e
  · rintro c st' ⟨rfl, rfl, hx, hs'⟩
    rw [show max n nrem = nrem by (clear hx hsz h1; omega)] at *
    exact h nrem hn (Nat.le_refl _) hs' fun z => absurd z (Nat.lt_irrefl _)

theorem wpS_desc (O : Ord M A E s kd Ok R) {st : SortSt} {lo n nrem : Nat} {Q : Option (Option Nat) × Nat × Nat → SortSt → Prop} (hk : kindOf st = kd) (hA : All Ok (arrOf st)) (h1 : 1 ≤ n) (hn : n ≤ nrem) (hsz : lo + nrem ≤ (arrOf st).size)
    (hs : Dec R (arrOf st) lo (lo + n))
    (h : ∀ m q a', n ≤ m → m ≤ nrem → q + 1 ≤ m → Stir (arrOf st) a' lo (lo + nrem) → Dec R a' lo (lo + m) → (∀ k, lo + m - (q + 1) ≤ k → k < lo + m → le R (g a' k) (g a' (lo + m - 1))) → Q (none, m, q) (setArr st a'))
    {f : Nat → Option (Option Nat) × Nat × Nat → StateT SortSt Sem (ForInStep (Option (Option Nat) × Nat × Nat))}
    (hf : ∀ x c, f x c = (do
      let r ← ltAt' (lo + c.2.1) (lo + c.2.1 - 1)
      match r with
      | some smaller =>
        if smaller = true then
          if c.2.2 > 0 then do
            reverseSlice' (lo + c.2.1 - (c.2.2 + 1)) (lo + c.2.1)
            pure (ForInStep.yield (none, c.2.1 + 1, 0))
          else pure (ForInStep.yield (none, c.2.1 + 1, 0))
        else do
          let r ← ltAt' (lo + c.2.1 - 1) (lo + c.2.1)
          match r with
          | some larger =>
            if larger = true then pure (ForInStep.done (none, c.2.1, c.2.2))
            else pure (ForInStep.yield (none, c.2.1 + 1, c.2.2 + 1))
          | _ => pure (ForInStep.done (some none, c.2.1, c.2.2))
      | _ => pure (ForInStep.done (some none, c.2.1, c.2.2)))) : wpS M A E s (forIn [n:nrem] (none, n, 0) f) Q st := by
  have dec1 : ∀ {a : Array Keyed} {m : Nat}, Dec R a lo (lo + m) → 1 ≤ m → le R (g a (lo + m)) (g a (lo + m - 1)) → Dec R a lo (lo + (m + 1)) := fun {a m} hd hm hl i j h1 h2 h3 => by
    by_cases hj : j < lo + m
    · exact hd i j h1 h2 hj
    · have ej : j = lo + m := by (clear h2 h1 hm hsz hn; omega)
      subst ej
      by_cases hi : i = lo + m
      · subst hi; exact O.refl _
      · exact O.trans hl (hd i (lo + m - 1) h1 (by (clear hj h3 h1 hm hsz hn; omega)) (by (clear hi hj h3 h2 h1 hsz hn; omega)))
  refine wpS_forRange (I := fun x c st' => ∃ q a', st' = setArr st a' ∧ c = (none, x, q) ∧ x ≤ nrem ∧ q + 1 ≤ x ∧ Stir (arrOf st) a' lo (lo + nrem) ∧ Dec R a' lo (lo + x) ∧
    (∀ k, lo + x - (q + 1) ≤ k → k < lo + x → le R (g a' k) (g a' (lo + x - 1)))) ?_ ?_ ⟨0, arrOf st, rfl, rfl, hn, h1, Stir.refl _ _ _, hs, fun k k1 k2 => ?_⟩
  · rintro x c st' hx1 hx2 ⟨q, a', rfl, rfl, hx, hq, hS, hd, he⟩
    have hz := hS.size
    have hA' := hA.perm hS.perm
    rw [hf]
    try dsimp only
    refine wpS_bind (wpS_at O (st := setArr st a') hk hA' (by show lo + x < a'.size; (clear hq hx hx1 hn h1; omega)) (by show lo + x - 1 < a'.size; (clear hq hx hx1 hn h1; omega)) ?_)
    try dsimp only
    cases e : R (g a' (lo + x)) (g a' (lo + x - 1)) with
    | true =>
      try dsimp only
      rw [if_pos rfl]
      have hl := O.le_of_lt e
      by_cases h0 : q > 0
      · rw [if_pos h0]
        refine wpS_bind (wpS_rev ?_)
        refine wpS_pure ⟨0, mirror a' (lo + x - (q + 1)) (lo + x) ((lo + x - (lo + x - (q + 1))) / 2), rfl, rfl, by (clear h0 hz hq hx hx1 hsz hn h1; omega), by (clear h0 hz hq hx hx2 hx1 hsz hn h1; omega), hS.trans ((stir_mirror (by (clear h0 hq hx hx1 hn h1; omega))).mono (by (clear h0 hz hx hx2 hx1 hsz hn h1; omega)) (by (clear h0 hz hq hx hx1 hsz hn h1; omega))), ?_, fun k k1 k2 => ?_⟩
        · -- all of the turned stretch are alike
          have al : ∀ k, lo + x - (q + 1) ≤ k → k < lo + x → le R (g a' k) (g a' (lo + x - 1)) ∧ le R (g a' (lo + x - 1)) (g a' k) := fun k k1 k2 => ⟨he k k1 k2, hd k (lo + x - 1) (by (clear k2 h0 hz hx hx2 hx1 hsz hn h1; omega)) (by (clear k1 h0 hz hq hx hx2 hx1 hsz hn h1; omega)) (by (clear k2 k1 h0 hz hq hx hx2 hsz hn; omega))⟩
          refine dec1 (fun i j i1 i2 i3 => ?_) (by (clear h0 hz hq hx hx2 hsz hn; omega)) ?_
          · have gi : le R (g (mirror a' (lo + x - (q + 1)) (lo + x) ((lo + x - (lo + x - (q + 1))) / 2)) i) (g a' i) ∧ le R (g a' i) (g (mirror a' (lo + x - (q + 1)) (lo + x) ((lo + x - (lo + x - (q + 1))) / 2)) i) := by
              by_cases hi : lo + x - (q + 1) ≤ i
              · rw [g_mirror (by (clear hi i3 i2 i1 h0 hq hx hx1 hn h1; omega)) hi (by (clear hi i1 h0 hz hq hx hx2 hx1 hsz hn h1; omega))]
                have p1 := al (lo + x - (q + 1) + (lo + x) - 1 - i) (by (clear hi i1 h0 hz hq hx hx2 hx1 hsz hn h1; omega)) (by (clear i3 i2 i1 h0 hz hq hx hx2 hsz hn; omega))
                have p2 := al i hi (by (clear hi i1 h0 hz hq hx hx2 hx1 hsz hn h1; omega))
                exact ⟨O.trans p1.1 p2.2, O.trans p2.1 p1.2⟩
              · rw [g_congr ((stir_mirror (by (clear hi i3 i2 i1 h0 hq hx hx1 hn h1; omega))).keep i (by (clear i3 i2 i1 h0 hz hq hx hx2 hx1 hsz hn h1; omega)))]
                exact ⟨O.refl _, O.refl _⟩
            have gj : le R (g (mirror a' (lo + x - (q + 1)) (lo + x) ((lo + x - (lo + x - (q + 1))) / 2)) j) (g a' j) ∧ le R (g a' j) (g (mirror a' (lo + x - (q + 1)) (lo + x) ((lo + x - (lo + x - (q + 1))) / 2)) j) := by
              by_cases hi : lo + x - (q + 1) ≤ j
              · rw [g_mirror (by (clear hi i3 i2 i1 h0 hq hx hx1 hn h1; omega)) hi (by (clear hi i2 i1 h0 hz hq hx hx2 hx1 hsz hn h1; omega))]
                have p1 := al (lo + x - (q + 1) + (lo + x) - 1 - j) (by (clear hi i2 i1 h0 hz hq hx hx2 hx1 hsz hn h1; omega)) (by (clear i3 i2 i1 h0 hz hq hx hx2 hsz hn; omega))
                have p2 := al j hi (by (clear hi i2 i1 h0 hz hq hx hx2 hx1 hsz hn h1; omega))
                exact ⟨O.trans p1.1 p2.2, O.trans p2.1 p1.2⟩
              · rw [g_congr ((stir_mirror (by (clear hi i3 i2 i1 h0 hq hx hx1 hn h1; omega))).keep j (by (clear i3 i2 i1 h0 hz hq hx hx2 hx1 hsz hn h1; omega)))]
                exact ⟨O.refl _, O.refl _⟩
            exact O.trans gj.1 (O.trans (hd i j i1 i2 i3) gi.2)
          · rw [g_congr ((stir_mirror (by (clear h0 hq hx hx1 hn h1; omega))).keep (lo + x) (by (clear h0 hz hq hx hx2 hx1 hsz hn h1; omega))), g_mirror (by (clear h0 hq hx hx1 hn h1; omega)) (by (clear h0 hz hq hx hx2 hx1 hsz hn h1; omega)) (by (clear h0 hz hq hx hx2 hsz hn; omega))]
            exact O.trans hl (al _ (by (clear h0 hz hq hx hx2 hx1 hsz hn h1; omega)) (by (clear h0 hz hq hx hx2 hsz hn; omega))).2
        · have ek : k = lo + (x + 1) - 1 := by (clear h0 hz hq hx hx2 hx1 hsz hn h1; omega)
          subst ek; exact O.refl _
      · rw [if_neg h0]
        refine wpS_pure ⟨0, a', rfl, rfl, by (clear h0 hz hq hx hx1 hsz hn h1; omega), by (clear h0 hz hq hx hx2 hx1 hsz hn h1; omega), hS, dec1 hd (by (clear h0 hz hq hx hx2 hsz hn; omega)) hl, fun k k1 k2 => ?_⟩
        have ek : k = lo + (x + 1) - 1 := by (clear h0 hz hq hx hx2 hx1 hsz hn h1; omega)
        subst ek; exact O.refl _
    | false =>
      try dsimp only
      rw [if_neg Bool.false_ne_true]
      refine wpS_bind (wpS_at O (st := setArr st a') hk hA' (by show lo + x - 1 < a'.size; (clear hq hx hx1 hn h1; omega)) (by show lo + x < a'.size; (clear hq hx hx1 hn h1; omega)) ?_)
      try dsimp only
      cases e2 : R (g a' (lo + x - 1)) (g a' (lo + x)) with
      | true =>
        try dsimp only
        rw [if_pos rfl]
        exact wpS_pure (h x q a' hx1 (by (clear hz hq hx hx1 hsz hn h1; omega)) hq hS hd he)
      | false =>
        try dsimp only
        rw [if_neg Bool.false_ne_true]
        refine wpS_pure ⟨q + 1, a', rfl, rfl, by (clear hz hq hx hx1 hsz hn h1; omega), by (clear hz hx hx2 hx1 hsz hn h1; omega), hS, dec1 hd (by (clear hz hq hx hx2 hsz hn; omega)) e2, fun k k1 k2 => ?_⟩
        rw [show lo + (x + 1) - 1 = lo + x by (clear k2 k1 hz hq hx hx2 hx1 hsz hn h1; omega)]
        by_cases ek : k = lo + x
        · subst ek; exact O.refl _
        · exact O.trans (he k (by (clear ek k2 hz hq hx hx2 hx1 hsz hn h1; omega)) (by (clear k1 hz hq hx hx2 hx1 hsz hn h1; omega))) e
  · rintro c st' ⟨q, a', rfl, rfl, hx, hq, hS, hd, he⟩
    rw [show max n nrem = nrem by (clear hq hx hsz h1; omega)] at *
    exact h nrem q a' hn (Nat.le_refl _) hq hS hd he
  · have ek : k = lo + n - 1 := by (clear hsz hn h1; omega)
    subst ek; exact O.refl _
end
end Tim

end
section
set_option autoImplicit false
set_option autoImplicit false
set_option linter.all false
namespace Tim
open PySem PyProof.Rows
section
variable {M : Model} {A : Around} {E : Value → Shared → Prop} {s : Shared} {kd : SortKind} {Ok : Keyed → Prop} {R : Keyed → Keyed → Bool}

theorem Dec.turned (O : Ord M A E s kd Ok R) {a : Array Keyed} {lo hi : Nat} (h : Dec R a lo hi) (hz : hi ≤ a.size) : Srt R (mirror a lo hi ((hi - lo) / 2)) lo hi := fun i j h1 h2 h3 => by
  rw [g_mirror hz h1 (by (clear h1 hz; omega)), g_mirror hz (by (clear h3 hz; omega)) h3]
  exact h _ _ (by (clear h2 h1 hz; omega)) (by (clear h3 h1 hz; omega)) (by (clear h2 hz; omega))

theorem wpS_run (O : Ord M A E s kd Ok R) {st : SortSt} {lo nrem : Nat} {Q : Option Nat → SortSt → Prop} (hk : kindOf st = kd) (hA : All Ok (arrOf st)) (h1 : 1 ≤ nrem) (hsz : lo + nrem ≤ (arrOf st).size)
    (h : ∀ n a', Stir (arrOf st) a' lo (lo + nrem) → 1 ≤ n → n ≤ nrem → Srt R a' lo (lo + n) → Q (some n) (setArr st a')) : wpS M A E s (countRun' lo nrem) Q st := by
  have fall : ∀ (a : Array Keyed) (n : Nat), Stir (arrOf st) a lo (lo + nrem) → 1 ≤ n → n < nrem → Dec R a lo (lo + (n + 1)) →
      ∀ {k : Option (Option Nat) × Nat × Nat → StateT SortSt Sem (Option Nat)}, (∀ c : Option (Option Nat) × Nat × Nat, c.1 = none → k c = (do
        if c.2.2 > 0 then do
          reverseSlice' (lo + c.2.1 - (c.2.2 + 1)) (lo + c.2.1)
          reverseSlice' lo (lo + c.2.1)
          let r ← forIn [c.2.1:nrem] ((none, c.2.1) : Option (Option Nat) × Nat) fun _ d => do
            let r ← ltAt' (lo + d.2) (lo + d.2 - 1)
            match r with
            | some smaller => if smaller = true then pure (ForInStep.done (none, d.2)) else pure (ForInStep.yield (none, d.2 + 1))
            | _ => pure (ForInStep.done (some none, d.2))
          match r.1 with
          | some r => pure r
          | none => pure (some r.2)
        else do
          reverseSlice' lo (lo + c.2.1)
          let r ← forIn [c.2.1:nrem] ((none, c.2.1) : Option (Option Nat) × Nat) fun _ d => do
            let r ← ltAt' (lo + d.2) (lo + d.2 - 1)
            match r with
            | some smaller => if smaller = true then pure (ForInStep.done (none, d.2)) else pure (ForInStep.yield (none, d.2 + 1))
            | _ => pure (ForInStep.done (some none, d.2))
          match r.1 with
          | some r => pure r
          | none => pure (some r.2))) →
      ∀ {f : Nat → Option (Option Nat) × Nat × Nat → StateT SortSt Sem (ForInStep (Option (Option Nat) × Nat × Nat))}, (∀ x c, f x c = (do
        let r ← ltAt' (lo + c.2.1) (lo + c.2.1 - 1)
        match r with
        | some smaller =>
          if smaller = true then
            if c.2.2 > 0 then do
              reverseSlice' (lo + c.2.1 - (c.2.2 + 1)) (lo + c.2.1)
              pure (ForInStep.yield (none, c.2.1 + 1, 0))
            else pure (ForInStep.yield (none, c.2.1 + 1, 0))
          else do
            let r ← ltAt' (lo + c.2.1 - 1) (lo + c.2.1)
            match r with
            | some larger =>
              if larger = true then pure (ForInStep.done (none, c.2.1, c.2.2))
              else pure (ForInStep.yield (none, c.2.1 + 1, c.2.2 + 1))
            | _ => pure (ForInStep.done (some none, c.2.1, c.2.2))
        | _ => pure (ForInStep.done (some none, c.2.1, c.2.2)))) → wpS M A E s (forIn [n + 1:nrem] (none, n + 1, 0) f >>= k) Q (setArr st a) := by
    intro a n hS hn1 hn2 hd k hkk f hf
    have hz := hS.size
    have tail : ∀ (b : Array Keyed) (m : Nat), Stir (arrOf st) b lo (lo + nrem) → 1 ≤ m → m ≤ nrem → Dec R b lo (lo + m) → wpS M A E s (do
        reverseSlice' lo (lo + m)
        let r ← forIn [m:nrem] ((none, m) : Option (Option Nat) × Nat) fun _ d => do
          let r ← ltAt' (lo + d.2) (lo + d.2 - 1)
          match r with
          | some smaller => if smaller = true then pure (ForInStep.done (none, d.2)) else pure (ForInStep.yield (none, d.2 + 1))
          | _ => pure (ForInStep.done (some none, d.2))
        match r.1 with
        | some r => pure r
        | none => pure (some r.2)) Q (setArr st b) := by
      intro b m hS hm1 hm2 hd
      have hz := hS.size
      refine wpS_bind (wpS_rev ?_)
      have hS2 : Stir (arrOf st) (mirror b lo (lo + m) ((lo + m - lo) / 2)) lo (lo + nrem) := hS.trans ((stir_mirror (by (clear hm1 hn2 hn1 h1; omega))).mono (Nat.le_refl _) (by (clear hz hm1 hn2 hn1 hsz h1; omega)))
      refine wpS_bind (wpS_asc O (st := setArr st (mirror b lo (lo + m) ((lo + m - lo) / 2))) hk (hA.perm hS2.perm) hm1 hm2 (by show lo + nrem ≤ (mirror b lo (lo + m) ((lo + m - lo) / 2)).size; rw [hS2.size]; exact hsz)
        (hd.turned O (by (clear hm1 hn2 hn1 h1; omega))) (fun q q1 q2 q3 _ => ?_) fun _ _ => rfl)
      exact wpS_pure (h q _ hS2 (by (clear q2 hz hm2 hn2 hn1 hsz h1; omega)) q2 q3)
    refine wpS_bind (wpS_desc O (st := setArr st a) hk (hA.perm hS.perm) (by (clear hz hn2 hn1 hsz h1; omega)) (by (clear hz hn1 hsz h1; omega)) (by show lo + nrem ≤ a.size; (clear hn2 hn1 h1; omega)) hd (fun m q b m1 m2 m3 hS2 hd2 he => ?_) hf)
    rw [hkk _ rfl]
    have hS3 := hS.trans hS2
    have hz3 := hS3.size
    dsimp only
    by_cases h0 : q > 0
    · rw [if_pos h0]
      refine wpS_bind (wpS_rev ?_)
      refine tail (mirror b (lo + m - (q + 1)) (lo + m) ((lo + m - (lo + m - (q + 1))) / 2)) m (hS3.trans ((stir_mirror (by (clear h0 m3 m1 hz hn2 hn1 h1; omega))).mono (by (clear h0 hz3 m2 m1 hz hn2 hn1 hsz h1; omega)) (by (clear h0 hz3 m3 m1 hz hn2 hn1 hsz h1; omega)))) (by (clear h0 hz3 m3 m2 hz hn2 hn1 hsz h1; omega)) m2 ?_
      have al : ∀ k, lo + m - (q + 1) ≤ k → k < lo + m → le R (g b k) (g b (lo + m - 1)) ∧ le R (g b (lo + m - 1)) (g b k) := fun k k1 k2 => ⟨he k k1 k2, hd2 k (lo + m - 1) (by (clear k2 h0 hz3 m2 m1 hz hn2 hn1 hsz h1; omega)) (by (clear k1 h0 hz3 m3 m2 m1 hz hn2 hn1 hsz h1; omega)) (by (clear k2 k1 h0 hz3 m3 m2 hz hn2 hn1 hsz h1; omega))⟩
      have same : ∀ i, lo ≤ i → i < lo + m → le R (g (mirror b (lo + m - (q + 1)) (lo + m) ((lo + m - (lo + m - (q + 1))) / 2)) i) (g b i) ∧ le R (g b i) (g (mirror b (lo + m - (q + 1)) (lo + m) ((lo + m - (lo + m - (q + 1))) / 2)) i) := fun i i1 i2 => by
        by_cases hi : lo + m - (q + 1) ≤ i
        · rw [g_mirror (by (clear hi i2 i1 h0 m3 m1 hz hn2 hn1 h1; omega)) hi (by (clear hi i1 h0 hz3 m3 m2 m1 hz hn2 hn1 hsz h1; omega))]
          have p1 := al (lo + m - (q + 1) + (lo + m) - 1 - i) (by (clear hi i1 h0 hz3 m3 m2 m1 hz hn2 hn1 hsz h1; omega)) (by (clear i2 i1 h0 hz3 m3 m2 hz hn2 hn1 hsz h1; omega))
          have p2 := al i hi (by (clear hi i1 h0 hz3 m3 m2 m1 hz hn2 hn1 hsz h1; omega))
          exact ⟨O.trans p1.1 p2.2, O.trans p2.1 p1.2⟩
        · rw [g_congr ((stir_mirror (by (clear hi i2 i1 h0 m3 m1 hz hn2 hn1 h1; omega))).keep i (by (clear i2 i1 h0 hz3 m3 m2 m1 hz hn2 hn1 hsz h1; omega)))]
          exact ⟨O.refl _, O.refl _⟩
      exact fun i j i1 i2 i3 => O.trans (same j (by (clear i3 h0 hz3 m3 m2 m1 hz hn2 hn1 hsz h1; omega)) i3).1 (O.trans (hd2 i j i1 i2 i3) (same i i1 (by (clear i1 h0 hz3 m3 m2 m1 hz hn2 hn1 hsz h1; omega))).2)
    · rw [if_neg h0]
      exact tail b m hS3 (by (clear h0 hz3 m3 m2 hz hn2 hn1 hsz h1; omega)) m2 hd2
  rw [countRun'_eq]
  refine wpS_bind (wpS_asc O hk hA (Nat.le_refl 1) h1 hsz (fun i j a b c => by have : i = j := by (clear hsz h1; omega)
                                                                               subst this; exact O.refl _) (fun m m1 m2 hs hbk => ?_) fun _ _ => rfl)
  dsimp only
  by_cases e : m = nrem
  · rw [if_pos (by simp [e])]
    exact wpS_pure (h m _ (Stir.refl _ _ _) (by (clear e m2 hsz h1; omega)) m2 hs)
  · rw [if_neg (by simp [e])]
    have hb := hbk (by (clear m1 hsz h1; omega))
    have dec2 : ∀ a : Array Keyed, Dec R a lo (lo + m) → le R (g a (lo + m)) (g a (lo + m - 1)) → Dec R a lo (lo + (m + 1)) := fun a hd hl i j h1 h2 h3 => by
      by_cases hj : j < lo + m
      · exact hd i j h1 h2 hj
      · have ej : j = lo + m := by (clear h2 h1 e m2 m1 hsz; omega)
        subst ej
        by_cases hi : i = lo + m
        · subst hi; exact O.refl _
        · exact O.trans hl (hd i (lo + m - 1) h1 (by (clear hj h3 h1 e m2 m1 hsz; omega)) (by (clear hi hj h3 h2 h1 e m2 hsz; omega)))
    by_cases g1 : m > 1
    · rw [if_pos g1]
      refine wpS_bind (wpS_at O hk hA (by (clear g1 e m2 m1; omega)) (by (clear g1 e m1; omega)) ?_)
      cases e2 : R (g (arrOf st) lo) (g (arrOf st) (lo + m - 1)) with
      | true =>
        try dsimp only
        rw [if_pos rfl]
        exact wpS_pure (h m _ (Stir.refl _ _ _) (by (clear g1 e m2 hsz h1; omega)) m2 hs)
      | false =>
        try dsimp only
        rw [if_neg Bool.false_ne_true]
        refine wpS_bind (wpS_rev ?_)
        refine wpS_bind (wpS_lift (wpAny_rule ⟨rfl, ?_⟩))
        refine fall (mirror (arrOf st) lo (lo + m) ((lo + m - lo) / 2)) m ((stir_mirror (by (clear g1 e m1 h1; omega))).mono (Nat.le_refl _) (by (clear g1 e m1 hsz h1; omega))) (by (clear g1 e m2 hsz h1; omega)) (by (clear g1 m1 hsz h1; omega)) (dec2 _ (fun i j i1 i2 i3 => ?_) ?_) (fun c hc => ?_) fun _ _ => rfl
        · rw [g_mirror (by (clear i3 i2 i1 g1 e m1 h1; omega)) i1 (by (clear i1 g1 e m2 m1 hsz h1; omega)), g_mirror (by (clear i3 i2 i1 g1 e m1 h1; omega)) (by (clear i3 g1 e m2 m1 hsz h1; omega)) i3]
          exact O.trans (hs _ (lo + m - 1) (by (clear i2 i1 g1 e m2 m1 hsz h1; omega)) (by (clear i3 g1 e m2 m1 hsz h1; omega)) (by (clear i3 i2 i1 g1 e m2 hsz h1; omega))) (O.trans e2 (hs lo _ (Nat.le_refl _) (by (clear i1 g1 e m2 m1 hsz h1; omega)) (by (clear i3 i2 g1 e m2 hsz h1; omega))))
        · rw [g_congr ((stir_mirror (by (clear g1 e m1 h1; omega))).keep (lo + m) (by (clear g1 e m2 m1 hsz h1; omega))), g_mirror (by (clear g1 e m1 h1; omega)) (by (clear g1 e m2 hsz h1; omega)) (by (clear g1 e m2 hsz h1; omega))]
          exact O.trans (O.le_of_lt hb) (O.trans e2 (hs lo _ (Nat.le_refl _) (by (clear g1 e m2 m1 hsz h1; omega)) (by (clear g1 e m2 hsz h1; omega))))
        · obtain ⟨c1, c2, c3⟩ := c
          cases hc
          dsimp only
          split
          · congr 1; funext _; congr 1; funext _; congr 1; funext d; obtain ⟨d1, d2⟩ := d; cases d1 <;> rfl
          · congr 1; funext _; congr 1; funext d; obtain ⟨d1, d2⟩ := d; cases d1 <;> rfl
    · rw [if_neg g1]
      refine wpS_bind (wpS_lift (wpAny_rule ⟨rfl, ?_⟩))
      have em : m = 1 := by (clear e m2 hsz h1; omega)
      refine fall (arrOf st) m (Stir.refl _ _ _) (by (clear em g1 e m2 hsz h1; omega)) (by (clear em g1 m1 hsz h1; omega)) (dec2 _ (fun i j i1 i2 i3 => ?_) (O.le_of_lt hb)) (fun c hc => ?_) fun _ _ => rfl
      · have : i = j := by (clear em e m2 m1 hsz h1; omega)
        subst this; exact O.refl _
      · obtain ⟨c1, c2, c3⟩ := c
        cases hc
        dsimp only
        split
        · congr 1; funext _; congr 1; funext _; congr 1; funext d; obtain ⟨d1, d2⟩ := d; cases d1 <;> rfl
        · congr 1; funext _; congr 1; funext d; obtain ⟨d1, d2⟩ := d; cases d1 <;> rfl

theorem wpS_bin (O : Ord M A E s kd Ok R) {st : SortSt} {lo n ok : Nat} {Q : Bool → SortSt → Prop} (hk : kindOf st = kd) (hA : All Ok (arrOf st)) (hok : ok ≤ n) (hsz : lo + n ≤ (arrOf st).size) (hs : Srt R (arrOf st) lo (lo + ok))
    (h : ∀ a', Stir (arrOf st) a' lo (lo + n) → Srt R a' lo (lo + n) → Q true (setArr st a')) : wpS M A E s (binarySort' lo n ok) Q st := by
  rw [binarySort'_eq]
  refine wpS_bind (wpS_mono (wpS_forRange (I := fun k c st' => ∃ a', st' = setArr st a' ∧ c = (none, ()) ∧ Stir (arrOf st) a' lo (lo + n) ∧ Srt R a' lo (lo + min k n))
    (Q := fun c st' => ∃ a', st' = setArr st a' ∧ c = (none, ()) ∧ Stir (arrOf st) a' lo (lo + n) ∧ Srt R a' lo (lo + n)) ?step ?fin ?init) ?post)
  case post =>
    rintro c st' ⟨a', rfl, rfl, hS, hs'⟩
    exact wpS_pure (h a' hS hs')
  case init =>
    refine ⟨arrOf st, rfl, rfl, Stir.refl _ _ _, fun i j h1 h2 h3 => ?_⟩
    by_cases e : ok = 0
    · have : i = j := by (clear hsz hok; omega)
      subst this; exact O.refl _
    · exact hs i j h1 h2 (by (clear h2 h1 hsz hok; omega))
  case fin =>
    rintro c st' ⟨a', e1, e2, hS, hs'⟩
    refine ⟨a', e1, e2, hS, ?_⟩
    rwa [show min (max (max ok 1) n) n = n by (clear hsz hok; omega)] at hs'
  case step =>
    rintro k c st' hak hkn ⟨a', rfl, rfl, hS, hs'⟩
    rw [show min k n = k by (clear hak hsz hok; omega)] at hs'
    have hz := hS.size
    have hA' := hA.perm hS.perm
    refine wpS_bind (wpS_mono (wpS_forRange (I := fun x c st'' => st'' = setArr st a' ∧ ∃ l r, c = (none, l, r) ∧ l ≤ r ∧ r ≤ k ∧ r - l ≤ k - x ∧
        (∀ i, i < l → le R (g a' (lo + i)) (g a' (lo + k))) ∧ (∀ i, r ≤ i → i < k → le R (g a' (lo + k)) (g a' (lo + i))))
      (Q := fun c st'' => st'' = setArr st a' ∧ ∃ l r, c = (none, l, r) ∧ l ≤ k ∧
        (∀ i, i < l → le R (g a' (lo + i)) (g a' (lo + k))) ∧ (∀ i, l ≤ i → i < k → le R (g a' (lo + k)) (g a' (lo + i)))) ?istep ?ifin ?iinit) ?ipost)
    case iinit => exact ⟨rfl, 0, k, rfl, by (clear hz hkn hak hsz hok; omega), by (clear hz hkn hak hsz hok; omega), by (clear hz hkn hak hsz hok; omega), fun i hi => by (clear hz hkn hak hsz hok; omega), fun i h1 h2 => by (clear hz hkn hak hsz hok; omega)⟩
    case ifin =>
      rintro c st'' ⟨rfl, l, r, rfl, hlr, hrk, hm, hlo, hhi⟩
      have : l = r := by (clear hrk hz hkn hak hsz hok; omega)
      subst this
      exact ⟨rfl, l, l, rfl, hrk, hlo, hhi⟩
    case istep =>
      rintro x c st'' _ hxk ⟨rfl, l, r, rfl, hlr, hrk, hm, hlo, hhi⟩
      dsimp only
      by_cases hge : l ≥ r
      · rw [if_pos hge]
        have : l = r := by (clear hm hrk hxk hz hkn hak hsz hok; omega)
        subst this
        exact wpS_pure ⟨rfl, l, l, rfl, hrk, hlo, hhi⟩
      · rw [if_neg hge]
        refine wpS_bind (wpS_at O (st := setArr st a') hk hA' (by show lo + k < a'.size; (clear hge hm hrk hlr hxk hak hok; omega)) (by show lo + (l + r) / 2 < a'.size; (clear hge hm hxk hak hok; omega)) ?_)
        try dsimp only
        cases hless : R (g a' (lo + k)) (g a' (lo + (l + r) / 2)) with
        | true =>
          try dsimp only
          rw [if_pos rfl]
          refine wpS_pure ⟨rfl, l, (l + r) / 2, rfl, by (clear hge hm hrk hxk hz hkn hak hsz hok; omega), by (clear hge hm hxk hz hkn hak hsz hok; omega), by (clear hge hrk hlr hxk hz hkn hak hsz hok; omega), hlo, fun i h1 h2 => ?_⟩
          exact O.trans (O.le_of_lt hless) (hs' (lo + (l + r) / 2) (lo + i) (by (clear h2 h1 hge hm hrk hlr hxk hz hkn hak hsz hok; omega)) (by (clear h2 hge hm hrk hlr hxk hz hkn hak hsz hok; omega)) (by (clear h1 hge hm hrk hlr hxk hz hkn hak hsz hok; omega)))
        | false =>
          try dsimp only
          rw [if_neg Bool.false_ne_true]
          refine wpS_pure ⟨rfl, (l + r) / 2 + 1, r, rfl, by (clear hm hrk hlr hxk hz hkn hak hsz hok; omega), by (clear hge hm hlr hxk hz hkn hak hsz hok; omega), by (clear hge hrk hlr hxk hz hkn hak hsz hok; omega), fun i h1 => ?_, hhi⟩
          exact O.trans (hs' (lo + i) (lo + (l + r) / 2) (by (clear h1 hge hm hrk hlr hxk hz hkn hak hsz hok; omega)) (by (clear hge hm hrk hlr hxk hz hkn hak hsz hok; omega)) (by (clear h1 hm hlr hxk hz hkn hak hsz hok; omega))) hless
    case ipost =>
      rintro c st'' ⟨rfl, l, r, rfl, hlk, hlo, hhi⟩
      show wpS _ _ _ _ (moveDown' (lo + k) (lo + l) >>= fun _ => pure (ForInStep.yield (none, ()))) _ _
      rw [moveDown'_eq]
      have hks : lo + k < a'.size := by (clear hlk hak hok; omega)
      have gb : ∀ i, g (bubble a' (lo + k) (lo + k - (lo + l))) i = if i = lo + l then g a' (lo + k) else if lo + l < i ∧ i ≤ lo + k then g a' (i - 1) else g a' i := fun i => by
        have e := getElem?_bubble hks (lo + k - (lo + l)) (by (clear hks hlk hz hkn hak hsz hok; omega)) i
        rw [show lo + k - (lo + k - (lo + l)) = lo + l by (clear hks hz hkn hak hsz hok; omega)] at e
        by_cases h1 : i = lo + l
        · rw [if_pos h1] at e ⊢; exact g_congr e
        · rw [if_neg h1] at e ⊢
          by_cases h2 : lo + l < i ∧ i ≤ lo + k
          · rw [if_pos h2] at e ⊢; exact g_congr e
          · rw [if_neg h2] at e ⊢; exact g_congr e
      refine wpS_bind (wpS_modify (wpS_pure ⟨bubble a' (lo + k) (lo + k - (lo + l)), rfl, rfl, hS.trans ⟨bubble_perm _ _ _, fun i hi => ?_⟩, ?_⟩))
      · rw [getElem?_bubble hks _ (by (clear hi hks hlk hz hkn hak hsz hok; omega)), if_neg (by (clear hks hlk hz hak hsz hok; omega)), if_neg (by (clear hks hlk hz hak hsz hok; omega))]
      · rw [show min (k + 1) n = k + 1 by (clear hks hlk hz hak hsz hok; omega)]
        intro i j h1 h2 h3
        rw [gb, gb]
        have lo' : ∀ p, lo ≤ p → p < lo + l → le R (g a' p) (g a' (lo + k)) := fun p p1 p2 => by
          have := hlo (p - lo) (by (clear h3 h2 h1 hks hlk hz hkn hak hsz hok; omega))
          rwa [show lo + (p - lo) = p by (clear p2 h3 h2 h1 hks hlk hz hkn hak hsz hok; omega)] at this
        have hi' : ∀ p, lo + l ≤ p → p < lo + k → le R (g a' (lo + k)) (g a' p) := fun p p1 p2 => by
          have := hhi (p - lo) (by (clear p2 h3 h2 h1 hks hlk hz hkn hak hsz hok; omega)) (by (clear p1 h3 h2 h1 hks hlk hz hkn hsz hok; omega))
          rwa [show lo + (p - lo) = p by (clear p2 h3 h2 h1 hks hlk hz hkn hak hsz hok; omega)] at this
        repeat' split
        all_goals first
          | (exfalso; omega)
          | exact O.refl _
          | exact lo' _ (by omega) (by omega)
          | exact hi' _ (by omega) (by (clear h3 h2 h1 hks hlk hz hkn hak hsz hok; omega))
          | exact hs' _ _ (by (clear h3 h2 hks hlk hz hkn hak hsz hok; omega)) (by (clear h3 h1 hks hlk hz hkn hak hsz hok; omega)) (by (clear h2 h1 hks hz hkn hak hsz hok; omega))
end
end Tim

end
section
set_option autoImplicit false
set_option autoImplicit false
set_option linter.all false
namespace Tim
open PySem PyProof.Rows
noncomputable def gallopX : Bool → Keyed → Array Keyed → Nat → Nat → Nat → StateT SortSt Sem (Option Nat) := sortPriv% PySem.Builtin.gallop
noncomputable def mergeLoX : Array Keyed → Array Keyed → StateT SortSt Sem (Array Keyed) := sortPriv% PySem.Builtin.mergeLo
noncomputable def mergeHiX : Array Keyed → Array Keyed → StateT SortSt Sem (Array Keyed) := sortPriv% PySem.Builtin.mergeHi
section
variable {M : Model} {A : Around} {E : Value → Shared → Prop} {s : Shared} {kd : SortKind} {Ok : Keyed → Prop} {R : Keyed → Keyed → Bool}
noncomputable def bey (R : Keyed → Keyed → Bool) (left : Bool) (key : Keyed) (arr : Array Keyed) (base i : Nat) : Bool := if left = true then R (g arr (base + i)) key else !(R key (g arr (base + i)))
theorem wpS_bey (O : Ord M A E s kd Ok R) {st : SortSt} {left : Bool} {key : Keyed} {arr : Array Keyed} {base i : Nat} {Q : Option Bool → SortSt → Prop} (hk : kindOf st = kd) (hy : Ok key) (hA : All Ok arr) (hi : base + i < arr.size)
    (h : Q (some (bey R left key arr base i)) st) :
    wpS M A E s (elem' arr (base + i) >>= fun x => if left = true then lt' x key else lt' key x >>= fun r => pure (Option.map (fun b => !b) r)) Q st := by
  rw [elem'_eq, g_of hi]
  refine wpS_bind (wpS_pure ?_)
  unfold bey at h
  cases left with
  | true => rw [if_pos rfl] at h ⊢; exact O.lt (hA.at hi) hy hk h
  | false => rw [if_neg Bool.false_ne_true] at h ⊢; exact wpS_bind (O.lt hy (hA.at hi) hk (wpS_pure h))

theorem gal_bin (O : Ord M A E s kd Ok R) {st : SortSt} {left : Bool} {key : Keyed} {arr : Array Keyed} {base n lo hi : Nat} {Q : Option (Option Nat) × Nat × Nat → SortSt → Prop} (hk : kindOf st = kd) (hy : Ok key) (hA : All Ok arr)
    (hsz : base + n ≤ arr.size) (mono : ∀ i j, i ≤ j → j < n → bey R left key arr base j = true → bey R left key arr base i = true)
    (h1 : lo ≤ hi) (h2 : hi ≤ n) (hl : ∀ i, i < lo → bey R left key arr base i = true) (hh : ∀ i, hi ≤ i → i < n → bey R left key arr base i = false)
    (h : ∀ r, r ≤ n → (∀ i, i < r → bey R left key arr base i = true) → (∀ i, r ≤ i → i < n → bey R left key arr base i = false) → Q (none, r, r) st)
    {f : Nat → Option (Option Nat) × Nat × Nat → StateT SortSt Sem (ForInStep (Option (Option Nat) × Nat × Nat))}
    (hf : ∀ x c, f x c = (if c.2.1 ≥ c.2.2 then pure (ForInStep.done (none, c.2.1, c.2.2)) else
      (elem' arr (base + (c.2.1 + (c.2.2 - c.2.1) / 2)) >>= fun x => if left = true then lt' x key else lt' key x >>= fun r => pure (Option.map (fun b => !b) r)) >>= fun r =>
        match r with
        | some more => if more = true then pure (ForInStep.yield (none, c.2.1 + (c.2.2 - c.2.1) / 2 + 1, c.2.2)) else pure (ForInStep.yield (none, c.2.1, c.2.1 + (c.2.2 - c.2.1) / 2))
        | _ => pure (ForInStep.done (some none, c.2.1, c.2.2)))) : wpS M A E s (forIn [:n] (none, lo, hi) f) Q st := by
  refine wpS_forRange (I := fun x c st' => st' = st ∧ ∃ l r, c = (none, l, r) ∧ l ≤ r ∧ r ≤ n ∧ r - l ≤ n - x ∧ (∀ i, i < l → bey R left key arr base i = true) ∧ (∀ i, r ≤ i → i < n → bey R left key arr base i = false)) ?_ ?_
    ⟨rfl, lo, hi, rfl, h1, h2, by (clear h1 hsz; omega), hl, hh⟩
  · rintro x c st' _ hx ⟨rfl, l, r, rfl, a1, a2, a3, a4, a5⟩
    rw [hf]
    dsimp only
    by_cases hge : l ≥ r
    · rw [if_pos hge]
      have : l = r := by (clear a3 a2 hx h2 h1 hsz; omega)
      subst this
      exact wpS_pure (h l a2 a4 a5)
    · rw [if_neg hge]
      refine wpS_bind (wpS_bey O hk hy hA (by (clear a3 a1 hx h2 h1; omega)) ?_)
      cases e : bey R left key arr base (l + (r - l) / 2) with
      | true =>
        try dsimp only
        rw [if_pos rfl]
        exact wpS_pure ⟨rfl, _, r, rfl, by (clear a3 a2 a1 hx h2 h1 hsz; omega), a2, by (clear hge a2 a1 hx h2 h1 hsz; omega), fun i hi => mono i _ (by (clear hge a3 a2 a1 hx h2 h1 hsz; omega)) (by (clear hi a3 a1 hx h2 h1 hsz; omega)) e, a5⟩
      | false =>
        try dsimp only
        rw [if_neg Bool.false_ne_true]
        refine wpS_pure ⟨rfl, l, _, rfl, by (clear hge a3 a2 a1 hx h2 h1 hsz; omega), by (clear hge a3 hx h2 h1 hsz; omega), by (clear hge a2 a1 hx h2 h1 hsz; omega), a4, fun i hi1 hi2 => ?_⟩
        cases e2 : bey R left key arr base i with
        | false => rfl
        | true => rw [mono _ _ hi1 hi2 e2] at e; cases e
  · rintro c st' ⟨rfl, l, r, rfl, a1, a2, a3, a4, a5⟩
    have : l = r := by (clear a2 h2 h1 hsz; omega)
    subst this
    exact h l a2 a4 a5
theorem wpS_gallop (O : Ord M A E s kd Ok R) {st : SortSt} {left : Bool} {key : Keyed} {arr : Array Keyed} {base n hint : Nat} {Q : Option Nat → SortSt → Prop} (hk : kindOf st = kd) (hy : Ok key) (hA : All Ok arr) (hn : hint < n)
    (hsz : base + n ≤ arr.size) (hs : Srt R arr base (base + n))
    (h : ∀ r, r ≤ n → (∀ i, i < r → bey R left key arr base i = true) → (∀ i, r ≤ i → i < n → bey R left key arr base i = false) → Q (some r) st) : wpS M A E s (gallopX left key arr base n hint) Q st := by
  have mono : ∀ i j, i ≤ j → j < n → bey R left key arr base j = true → bey R left key arr base i = true := fun i j hij hj e => by
    have hl := hs (base + i) (base + j) (by (clear hj hij hsz hn; omega)) (by (clear hj hsz hn; omega)) (by (clear hij hsz hn; omega))
    unfold bey at e ⊢
    cases left with
    | true => rw [if_pos rfl] at e ⊢; exact O.le_lt hl e
    | false =>
      rw [if_neg Bool.false_ne_true] at e ⊢
      have e' : R key (g arr (base + j)) = false := by simpa using e
      have : R key (g arr (base + i)) = false := O.trans hl e'
      rw [this]; rfl
  have anti : ∀ i j, i ≤ j → j < n → bey R left key arr base i = false → bey R left key arr base j = false := fun i j hij hj e => by
    cases e2 : bey R left key arr base j with
    | false => rfl
    | true => rw [mono i j hij hj e2] at e; cases e
  unfold gallopX
  refine wpS_bind (wpS_bey (left := left) (key := key) (arr := arr) (base := base) (i := hint) O hk hy hA (by omega) ?_)
  cases e : bey R left key arr base hint with
  | true =>
    dsimp only
    rw [if_pos rfl]
    refine wpS_bind (wpS_mono (wpS_forRange (I := fun x c st' => st' = st ∧ ∃ la o, c = (none, la, o) ∧ la < o ∧ x + 1 ≤ o ∧ hint + la < n ∧ bey R left key arr base (hint + la) = true)
      (Q := fun c st' => st' = st ∧ ∃ la o, c = (none, la, o) ∧ la < o ∧ hint + la < n ∧ bey R left key arr base (hint + la) = true ∧ (n - hint ≤ o ∨ (hint + o < n ∧ bey R left key arr base (hint + o) = false))) ?step ?fin
      ⟨rfl, 0, 1, rfl, by (clear hsz hn; omega), by (clear hsz hn; omega), by (clear hsz; omega), e⟩) ?post)
    case fin =>
      rintro c st' ⟨rfl, la, o, rfl, a1, a2, a3, a4⟩
      exact ⟨rfl, la, o, rfl, a1, a3, a4, .inl (by (clear a3 a1 hsz hn; omega))⟩
    case step =>
      rintro x c st' _ hx ⟨rfl, la, o, rfl, a1, a2, a3, a4⟩
      dsimp only
      by_cases hge : o ≥ n - hint
      · rw [if_pos hge]
        exact wpS_pure ⟨rfl, la, o, rfl, a1, a3, a4, .inl hge⟩
      · rw [if_neg hge]
        refine wpS_bind (wpS_bey (left := left) (key := key) (arr := arr) (base := base) (i := hint + o) O hk hy hA (by (clear a3 a2 a1 hx hn; omega)) ?_)
        cases e2 : bey R left key arr base (hint + o) with
        | true =>
          dsimp only
          rw [if_neg (by decide)]
          exact wpS_pure ⟨rfl, o, 2 * o + 1, rfl, by (clear hge a3 a2 a1 hx hsz hn; omega), by (clear hge a3 a1 hx hsz hn; omega), by (clear a3 a2 a1 hx hsz hn; omega), e2⟩
        | false =>
          dsimp only
          rw [if_pos (by decide)]
          exact wpS_pure ⟨rfl, la, o, rfl, a1, a3, a4, .inr ⟨by (clear a3 a2 a1 hx hsz hn; omega), e2⟩⟩
    case post =>
      rintro c st' ⟨rfl, la, o, rfl, a1, a3, a4, a5⟩
      dsimp only
      refine wpS_bind (gal_bin O hk hy hA hsz mono (by (clear a5 hsz hn; omega)) (by (clear a5 a3 a1 hsz; omega)) (fun i hi => mono i (hint + la) (by (clear a5 a3 a1 hsz hn; omega)) a3 a4) (fun i h1 h2 => ?_) (fun r r1 r2 r3 => ?_) fun _ _ => rfl)
      · rcases a5 with z | ⟨z1, z2⟩
        · (clear a3 a1 hsz hn; omega)
        · exact anti (hint + o) i (by (clear z1 a3 a1 hsz hn; omega)) h2 z2
      · exact wpS_pure (h r r1 r2 r3)
  | false =>
    dsimp only
    rw [if_neg Bool.false_ne_true]
    refine wpS_bind (wpS_mono (wpS_forRange (I := fun x c st' => st' = st ∧ ∃ la o, c = (none, la, o) ∧ la < o ∧ x + 1 ≤ o ∧ la ≤ hint ∧ bey R left key arr base (hint - la) = false)
      (Q := fun c st' => st' = st ∧ ∃ la o, c = (none, la, o) ∧ la < o ∧ la ≤ hint ∧ bey R left key arr base (hint - la) = false ∧ (hint + 1 ≤ o ∨ (o ≤ hint ∧ bey R left key arr base (hint - o) = true))) ?step ?fin
      ⟨rfl, 0, 1, rfl, by (clear hsz hn; omega), by (clear hsz hn; omega), by (clear hsz hn; omega), e⟩) ?post)
    case fin =>
      rintro c st' ⟨rfl, la, o, rfl, a1, a2, a3, a4⟩
      exact ⟨rfl, la, o, rfl, a1, a3, a4, .inl (by (clear a3 a1 hsz; omega))⟩
    case step =>
      rintro x c st' _ hx ⟨rfl, la, o, rfl, a1, a2, a3, a4⟩
      dsimp only
      by_cases hge : o ≥ hint + 1
      · rw [if_pos hge]
        exact wpS_pure ⟨rfl, la, o, rfl, a1, a3, a4, .inl hge⟩
      · rw [if_neg hge]
        refine wpS_bind (wpS_bey (left := left) (key := key) (arr := arr) (base := base) (i := hint - o) O hk hy hA (by (clear hge a3 a2 a1 hx; omega)) ?_)
        cases e2 : bey R left key arr base (hint - o) with
        | true =>
          dsimp only
          rw [if_pos rfl]
          exact wpS_pure ⟨rfl, la, o, rfl, a1, a3, a4, .inr ⟨by (clear a3 a2 a1 hx hsz hn; omega), e2⟩⟩
        | false =>
          dsimp only
          rw [if_neg Bool.false_ne_true]
          exact wpS_pure ⟨rfl, o, 2 * o + 1, rfl, by (clear hge a3 a2 a1 hx hsz hn; omega), by (clear hge a3 a1 hx hsz hn; omega), by (clear a3 a2 a1 hx hsz hn; omega), e2⟩
    case post =>
      rintro c st' ⟨rfl, la, o, rfl, a1, a3, a4, a5⟩
      dsimp only
      refine wpS_bind (gal_bin O hk hy hA hsz mono (by (clear a5 a3 hsz hn; omega)) (by (clear a5 a3 a1 hsz; omega)) (fun i hi => ?_) (fun i h1 h2 => anti (hint - la) i h1 h2 a4) (fun r r1 r2 r3 => ?_) fun _ _ => rfl)
      · rcases a5 with z | ⟨z1, z2⟩
        · (clear a3 a1 hsz hn; omega)
        · exact mono i (hint - o) (by (clear z1 a3 a1 hsz hn; omega)) (by (clear z1 hi a3 a1 hsz; omega)) z2
      · exact wpS_pure (h r r1 r2 r3)
end
end Tim

end
section
set_option autoImplicit false
set_option autoImplicit false
set_option linter.all false
namespace Tim
open PySem PyProof.Rows
theorem ext_all (a : Array Keyed) (i : Nat) : (a.extract i a.size).toList = a.toList.drop i := by
  rw [Array.toList_extract, List.extract_eq_take_drop]
  exact List.take_of_length_le (by simp)
theorem ext_cut (a : Array Keyed) (i k : Nat) : (a.extract i (i + k)).toList = (a.toList.drop i).take k := by
  rw [Array.toList_extract, List.extract_eq_take_drop, Nat.add_sub_cancel_left]
theorem ext_head (a : Array Keyed) (n : Nat) : (a.extract 0 n).toList = a.toList.take n := by
  rw [Array.toList_extract, List.extract_eq_take_drop]
  simp
theorem g_list {a : Array Keyed} {i : Nat} (h : i < a.size) : a.toList[i]? = some (g a i) := by
  rw [Array.getElem?_toList]; exact g_of h
theorem drop_g {a : Array Keyed} {i : Nat} (h : i < a.size) : a.toList.drop i = g a i :: a.toList.drop (i + 1) := by
  have hl : i < a.toList.length := by simpa using h
  rw [List.drop_eq_getElem_cons hl]
  congr 1
  have := g_list h
  rw [List.getElem?_eq_getElem hl] at this
  exact Option.some.inj this
theorem mem_drop {a : Array Keyed} {i : Nat} {x : Keyed} (h : x ∈ a.toList.drop i) : ∃ j, i ≤ j ∧ j < a.size ∧ x = g a j := by
  obtain ⟨k, hk, e⟩ := List.mem_iff_getElem.mp h
  have hk' : i + k < a.size := by
    have : k < a.toList.length - i := by simpa using hk
    simp at this; omega
  refine ⟨i + k, by omega, hk', ?_⟩
  have e2 : (a.toList.drop i)[k]? = some x := by rw [List.getElem?_eq_getElem hk, e]
  rw [List.getElem?_drop, g_list hk'] at e2
  exact (Option.some.inj e2).symm
theorem mem_cut {a : Array Keyed} {i k : Nat} {x : Keyed} (h : x ∈ (a.toList.drop i).take k) : ∃ j, i ≤ j ∧ j < a.size ∧ j < i + k ∧ x = g a j := by
  obtain ⟨q, hq, e⟩ := List.mem_iff_getElem.mp h
  have h1 : q < k := by simp at hq; omega
  have h2 : i + q < a.size := by simp at hq; omega
  refine ⟨i + q, by omega, h2, by omega, ?_⟩
  have e2 : ((a.toList.drop i).take k)[q]? = some x := by rw [List.getElem?_eq_getElem hq, e]
  rw [List.getElem?_take_of_lt h1, List.getElem?_drop, g_list h2] at e2
  exact (Option.some.inj e2).symm
theorem mem_take {a : Array Keyed} {n : Nat} {x : Keyed} (h : x ∈ a.toList.take n) : ∃ j, j < n ∧ j < a.size ∧ x = g a j := by
  have h' : x ∈ (a.toList.drop 0).take n := by simpa using h
  obtain ⟨j, _, h2, h3, e⟩ := mem_cut h'
  exact ⟨j, by omega, h2, e⟩
noncomputable abbrev setG (st : SortSt) (q : Nat) : SortSt := SortSt.mk' (kindOf st) (arrOf st) (pendingOf st) q (failedOf st)
section
variable {M : Model} {A : Around} {E : Value → Shared → Prop} {s : Shared} {kd : SortKind} {Ok : Keyed → Prop} {R : Keyed → Keyed → Bool}
theorem wpS_elem {st : SortSt} {arr : Array Keyed} {i : Nat} {Q : Keyed → SortSt → Prop} (hi : i < arr.size) (h : Q (g arr i) st) : wpS M A E s (elem' arr i) Q st := by
  rw [elem'_eq, g_of hi]
  exact wpS_pure h
noncomputable def Fin (R : Keyed → Keyed → Bool) (a b res : Array Keyed) : Prop := res.toList.Perm (a.toList ++ b.toList) ∧ res.toList.Pairwise (le R)
structure ML (R : Keyed → Keyed → Bool) (a b out : Array Keyed) (ia ib : Nat) : Prop where
  perm : (out.toList ++ (a.toList.drop ia ++ b.toList.drop ib)).Perm (a.toList ++ b.toList)
  sa : (out.toList ++ a.toList.drop ia).Pairwise (le R)
  sb : (out.toList ++ b.toList.drop ib).Pairwise (le R)
theorem ML.doneB {a b out : Array Keyed} {ia ib : Nat} (h : ML R a b out ia ib) (e : ib = b.size) : Fin R a b (out ++ a.extract ia a.size ++ b.extract ib b.size) := by
  have e1 : (out ++ a.extract ia a.size ++ b.extract ib b.size).toList = out.toList ++ a.toList.drop ia := by
    rw [Array.toList_append, Array.toList_append, ext_all, ext_all, e, List.drop_of_length_le (l := b.toList) (by simp), List.append_nil]
  have e2 : b.toList.drop ib = [] := by rw [e]; exact List.drop_of_length_le (by simp)
  have p := h.perm
  rw [e2, List.append_nil] at p
  exact ⟨by rw [e1]; exact p, by rw [e1]; exact h.sa⟩
theorem ML.last (O : Ord M A E s kd Ok R) {a b out : Array Keyed} {ia ib : Nat} (h : ML R a b out ia ib) (e : ia + 1 = a.size) (hl : ∀ y ∈ b.toList, R y (g a (a.size - 1)) = true) : Fin R a b (out ++ b.extract ib b.size ++ a.extract ia a.size) := by
  have e1 : (out ++ b.extract ib b.size ++ a.extract ia a.size).toList = (out.toList ++ b.toList.drop ib) ++ a.toList.drop ia := by
    rw [Array.toList_append, Array.toList_append, ext_all, ext_all]
  have e2 : a.toList.drop ia = [g a ia] := by rw [drop_g (by omega), List.drop_of_length_le (by simp; omega)]
  have e3 : g a (a.size - 1) = g a ia := by rw [← e, Nat.add_sub_cancel]
  refine ⟨?_, ?_⟩
  · rw [e1, List.append_assoc]
    exact (List.Perm.append_left _ List.perm_append_comm).trans h.perm
  · rw [e1, e2, List.pairwise_append]
    refine ⟨h.sb, by simp, fun x hx y hy => ?_⟩
    have ey : y = g a ia := by simpa using hy
    subst ey
    rcases List.mem_append.mp hx with z | z
    · have := h.sa
      rw [e2, List.pairwise_append] at this
      exact this.2.2 x z _ (by simp)
    · have := hl x (List.mem_of_mem_drop z)
      rw [e3] at this
      exact O.le_of_lt this
theorem ML.takeBs {a b out : Array Keyed} {ia ib k : Nat} (h : ML R a b out ia ib) (hx : ∀ y ∈ (b.toList.drop ib).take k, ∀ x ∈ a.toList.drop ia, le R y x) : ML R a b (out ++ b.extract ib (ib + k)) ia (ib + k) := by
  have e1 : (out ++ b.extract ib (ib + k)).toList = out.toList ++ (b.toList.drop ib).take k := by rw [Array.toList_append, ext_cut]
  have e2 : b.toList.drop (ib + k) = (b.toList.drop ib).drop k := by rw [List.drop_drop]
  have e3 : (b.toList.drop ib).take k ++ (b.toList.drop ib).drop k = b.toList.drop ib := List.take_append_drop _ _
  refine ⟨?_, ?_, ?_⟩
  · rw [e1, e2]
    refine List.Perm.trans ?_ h.perm
    rw [List.append_assoc]
    refine List.Perm.append_left _ ?_
    rw [← List.append_assoc]
    refine (List.Perm.append_right _ List.perm_append_comm).trans ?_
    rw [List.append_assoc, e3]
  · rw [e1, List.append_assoc, List.pairwise_append]
    have p1 := List.pairwise_append.mp h.sa
    have p2 := h.sb
    rw [← e3, List.pairwise_append] at p2
    refine ⟨p1.1, ?_, fun x hx' y hy => ?_⟩
    · rw [List.pairwise_append]
      exact ⟨(List.pairwise_append.mp p2.2.1).1, p1.2.1, hx⟩
    · rcases List.mem_append.mp hy with z | z
      · exact p2.2.2 x hx' y (List.mem_append_left _ z)
      · exact p1.2.2 x hx' y z
  · rw [e1, e2, List.append_assoc, e3]
    exact h.sb
theorem ML.takeAs {a b out : Array Keyed} {ia ib k : Nat} (h : ML R a b out ia ib) (hx : ∀ x ∈ (a.toList.drop ia).take k, ∀ y ∈ b.toList.drop ib, le R x y) : ML R a b (out ++ a.extract ia (ia + k)) (ia + k) ib := by
  have e1 : (out ++ a.extract ia (ia + k)).toList = out.toList ++ (a.toList.drop ia).take k := by rw [Array.toList_append, ext_cut]
  have e2 : a.toList.drop (ia + k) = (a.toList.drop ia).drop k := by rw [List.drop_drop]
  have e3 : (a.toList.drop ia).take k ++ (a.toList.drop ia).drop k = a.toList.drop ia := List.take_append_drop _ _
  refine ⟨?_, ?_, ?_⟩
  · rw [e1, e2, List.append_assoc, ← List.append_assoc ((a.toList.drop ia).take k), e3]
    exact h.perm
  · rw [e1, e2, List.append_assoc, e3]
    exact h.sa
  · rw [e1, List.append_assoc, List.pairwise_append]
    have p1 := List.pairwise_append.mp h.sb
    have p2 := h.sa
    rw [← e3, List.pairwise_append] at p2
    refine ⟨p1.1, ?_, fun x hx' y hy => ?_⟩
    · rw [List.pairwise_append]
      exact ⟨(List.pairwise_append.mp p2.2.1).1, p1.2.1, hx⟩
    · rcases List.mem_append.mp hy with z | z
      · exact p2.2.2 x hx' y (List.mem_append_left _ z)
      · exact p1.2.2 x hx' y z
theorem push_ext {a out : Array Keyed} {i : Nat} (h : i < a.size) : out.push (g a i) = out ++ a.extract i (i + 1) := by
  apply Array.toList_inj.mp
  rw [Array.toList_push, Array.toList_append, ext_cut, drop_g h]
  rfl
theorem ML.takeB {a b out : Array Keyed} {ia ib : Nat} (h : ML R a b out ia ib) (hi : ib < b.size) (hx : ∀ x ∈ a.toList.drop ia, le R (g b ib) x) : ML R a b (out.push (g b ib)) ia (ib + 1) := by
  rw [push_ext hi]
  refine h.takeBs fun y hy x hx' => ?_
  rw [drop_g hi] at hy
  have : y = g b ib := by simpa using hy
  subst this; exact hx x hx'
theorem ML.takeA {a b out : Array Keyed} {ia ib : Nat} (h : ML R a b out ia ib) (hi : ia < a.size) (hx : ∀ y ∈ b.toList.drop ib, le R (g a ia) y) : ML R a b (out.push (g a ia)) (ia + 1) ib := by
  rw [push_ext hi]
  refine h.takeAs fun y hy x hx' => ?_
  rw [drop_g hi] at hy
  have : y = g a ia := by simpa using hy
  subst this; exact hx x hx'
theorem ML.srtA (O : Ord M A E s kd Ok R) {a b out : Array Keyed} {ia ib : Nat} (h : ML R a b out ia ib) : Srt R a ia a.size := fun i j h1 h2 h3 => by
  have p := (List.pairwise_append.mp h.sa).2.1
  by_cases e : i = j
  · subst e; exact O.refl _
  · have q := List.pairwise_iff_getElem.mp p (i - ia) (j - ia) (by simp; omega) (by simp; omega) (by omega)
    have gi : (a.toList.drop ia)[i - ia]? = some (g a i) := by rw [List.getElem?_drop, show ia + (i - ia) = i by omega]; exact g_list (by omega)
    have gj : (a.toList.drop ia)[j - ia]? = some (g a j) := by rw [List.getElem?_drop, show ia + (j - ia) = j by omega]; exact g_list (by omega)
    rw [List.getElem?_eq_getElem (by simp; omega)] at gi gj
    rw [Option.some.inj gi, Option.some.inj gj] at q
    exact q
theorem ML.srtB (O : Ord M A E s kd Ok R) {a b out : Array Keyed} {ia ib : Nat} (h : ML R a b out ia ib) : Srt R b ib b.size := by
  have h' : ML R b a out ib ia := ⟨(List.Perm.append_left _ List.perm_append_comm).trans (h.perm.trans List.perm_append_comm), h.sb, h.sa⟩
  exact h'.srtA O
end
end Tim

end
section
set_option autoImplicit false
set_option autoImplicit false
set_option linter.all false
namespace Tim
open PySem PyProof.Rows
section
variable {M : Model} {A : Around} {E : Value → Shared → Prop} {s : Shared} {kd : SortKind} {Ok : Keyed → Prop} {R : Keyed → Keyed → Bool}
theorem wpS_setG {st : SortSt} {q : Nat} {Q : Unit → SortSt → Prop} (h : Q () (setG st q)) : wpS M A E s (modify fun z => setG z q : StateT SortSt Sem Unit) Q st := wpS_modify h
theorem wpS_low (O : Ord M A E s kd Ok R) {st : SortSt} {a b : Array Keyed} {Q : Array Keyed → SortSt → Prop} (hk : kindOf st = kd) (hA : All Ok a) (hB : All Ok b) (ha : 0 < a.size) (hb : 0 < b.size)
    (sa : Srt R a 0 a.size) (sb : Srt R b 0 b.size) (hf : R (g b 0) (g a 0) = true) (hl : ∀ y ∈ b.toList, R y (g a (a.size - 1)) = true)
    (h : ∀ res q, Fin R a b res → Q res (setG st q)) : wpS M A E s (mergeLoX a b) Q st := by
  have pw : ∀ {x : Array Keyed}, Srt R x 0 x.size → x.toList.Pairwise (le R) := fun {x} hs => by
    rw [List.pairwise_iff_getElem]
    intro i j hi hj hij
    have q := hs i j (Nat.zero_le _) (by (clear hj hi hb ha; omega)) (by simpa using hj)
    have gi := g_list (a := x) (i := i) (by simpa using hi)
    have gj := g_list (a := x) (i := j) (by simpa using hj)
    rw [List.getElem?_eq_getElem hi] at gi
    rw [List.getElem?_eq_getElem hj] at gj
    rw [Option.some.inj gi, Option.some.inj gj]
    exact q
  have two : ∀ {out : Array Keyed} {ia ib : Nat}, ML R a b out ia ib → ia < a.size → ib < b.size → R (g b ib) (g a ia) = true → ∀ x ∈ a.toList.drop ia, le R (g b ib) x := fun {out ia ib} m h1 h2 e x hx => by
    obtain ⟨j, j1, j2, rfl⟩ := mem_drop hx
    exact O.trans (O.le_of_lt e) (m.srtA O ia j (Nat.le_refl _) j1 j2)
  have one : ∀ {out : Array Keyed} {ia ib : Nat}, ML R a b out ia ib → ia < a.size → ib < b.size → R (g b ib) (g a ia) = false → ∀ y ∈ b.toList.drop ib, le R (g a ia) y := fun {out ia ib} m h1 h2 e y hy => by
    obtain ⟨j, j1, j2, rfl⟩ := mem_drop hy
    exact O.trans e (m.srtB O ib j (Nat.le_refl _) j1 j2)
  have m0 : ML R a b #[] 0 0 := ⟨by simp, by simpa using pw sa, by simpa using pw sb⟩
  have m1 : ML R a b #[g b 0] 0 1 := m0.takeB hb (two m0 ha hb hf)
  unfold mergeLoX
  refine wpS_bind (wpS_lift (wpAny_rule ⟨rfl, ?_⟩))
  refine wpS_bind (wpS_elem hb ?_)
  try dsimp only
  by_cases c1 : 1 = b.size
  · rw [if_pos (by simp [← c1])]
    exact wpS_pure (h _ (gallopOf st) (m1.doneB c1))
  rw [if_neg (by simpa using c1)]
  by_cases c2 : 0 + 1 = a.size
  · rw [if_pos (by simp [← c2])]
    exact wpS_pure (h _ (gallopOf st) (m1.last O c2 hl))
  rw [if_neg (by simpa using c2)]
  refine wpS_bind (wpS_get ?_)
  try dsimp only
  refine wpS_bind (wpS_mono (wpS_forRange
    (I := fun x c st' => ∃ out ia ib mg q, c = (none, out, ia, ib, mg) ∧ st' = setG st q ∧ ML R a b out ia ib ∧ ia + 1 < a.size ∧ ib < b.size ∧ x + 1 ≤ ia + ib)
    (Q := fun c st' => ∃ res o i j m q, c = (some res, o, i, j, m) ∧ st' = setG st q ∧ Fin R a b res) ?step ?fin ⟨_, 0, 1, _, gallopOf st, rfl, rfl, m1, by (clear c1 hb; omega), by (clear c2 ha; omega), by (clear c2 c1 hb ha; omega)⟩) ?post)
  case fin =>
    rintro c st' ⟨out, ia, ib, mg, q, rfl, rfl, m, i1, i2, i3⟩
    (clear c2 c1 hb ha; omega)
  case post =>
    rintro c st' ⟨res, o, i, j, m, q, rfl, rfl, hF⟩
    exact wpS_pure (h res q hF)
  case step =>
    rintro x c st' _ hx ⟨out, ia, ib, mg, q, rfl, rfl, m, i1, i2, i3⟩
    try dsimp only
    refine wpS_bind (wpS_mono (wpS_forRange
      (I := fun y c st' => st' = setG st q ∧ ∃ out ia ib p r, c = (none, out, ia, ib, p, r) ∧ ML R a b out ia ib ∧ ia + 1 < a.size ∧ ib < b.size ∧ x + 1 + y ≤ ia + ib)
      (Q := fun c st' => st' = setG st q ∧ ((∃ res t, c = (some res, t) ∧ Fin R a b res) ∨ ∃ out ia ib p r, c = (none, out, ia, ib, p, r) ∧ ML R a b out ia ib ∧ ia + 1 < a.size ∧ ib < b.size ∧ x + 2 ≤ ia + ib)) ?step1 ?fin1
      ⟨rfl, out, ia, ib, 0, 0, rfl, m, i1, i2, by (clear i2 i1 hx c2 c1 hb ha; omega)⟩) ?post1)
    case fin1 =>
      rintro c st' ⟨_, out, ia, ib, p, r, rfl, m, i1, i2, i3⟩
      (clear hx c2 c1 hb ha; omega)
    case step1 =>
      rintro y c st' _ hy ⟨rfl, out, ia, ib, p, r, rfl, m, i1, i2, i3⟩
      try dsimp only
      refine wpS_bind (wpS_elem i2 ?_)
      refine wpS_bind (wpS_elem (i := ia) (by (clear i3 i2 hy hx c2 c1 hb ha; omega)) ?_)
      refine wpS_bind (O.lt (st := setG st q) (hB.at i2) (hA.at (by (clear i3 i2 hy hx c2 c1 hb ha; omega))) hk ?_)
      cases e : R (g b ib) (g a ia) with
      | true =>
        try dsimp only
        rw [if_pos rfl]
        refine wpS_bind (wpS_elem i2 ?_)
        have m' := m.takeB i2 (two m (by (clear i3 i2 hy hx c2 c1 hb ha; omega)) i2 e)
        try dsimp only
        by_cases d1 : ib + 1 = b.size
        · rw [if_pos (by simp [d1])]
          exact wpS_pure ⟨rfl, .inl ⟨_, _, rfl, m'.doneB d1⟩⟩
        · rw [if_neg (by simpa using d1)]
          by_cases d2 : r + 1 ≥ mg
          · rw [if_pos d2]
            exact wpS_pure ⟨rfl, .inr ⟨_, ia, ib + 1, _, _, rfl, m', i1, by (clear d2 i3 i1 hy hx c2 c1 hb ha; omega), by (clear d2 d1 i2 i1 hy hx c2 c1 hb ha; omega)⟩⟩
          · rw [if_neg d2]
            exact wpS_pure ⟨rfl, _, ia, ib + 1, _, _, rfl, m', i1, by (clear d2 i3 i1 hy hx c2 c1 hb ha; omega), by (clear d2 d1 i2 i1 hy hx c2 c1 hb ha; omega)⟩
      | false =>
        try dsimp only
        rw [if_neg Bool.false_ne_true]
        refine wpS_bind (wpS_elem (i := ia) (by (clear i3 i2 hy hx c2 c1 hb ha; omega)) ?_)
        have m' := m.takeA (by (clear i3 i2 hy hx c2 c1 hb ha; omega)) (one m (by (clear i3 i2 hy hx c2 c1 hb ha; omega)) i2 e)
        try dsimp only
        by_cases d1 : ia + 1 + 1 = a.size
        · rw [if_pos (by simp [d1])]
          exact wpS_pure ⟨rfl, .inl ⟨_, _, rfl, m'.last O d1 hl⟩⟩
        · rw [if_neg (by simpa using d1)]
          by_cases d2 : p + 1 ≥ mg
          · rw [if_pos d2]
            exact wpS_pure ⟨rfl, .inr ⟨_, ia + 1, ib, _, _, rfl, m', by (clear d2 i3 i2 hy hx c2 c1 hb ha; omega), i2, by (clear d2 d1 i2 i1 hy hx c2 c1 hb ha; omega)⟩⟩
          · rw [if_neg d2]
            exact wpS_pure ⟨rfl, _, ia + 1, ib, _, _, rfl, m', by (clear d2 i3 i2 hy hx c2 c1 hb ha; omega), i2, by (clear d2 d1 i2 i1 hy hx c2 c1 hb ha; omega)⟩
    case post1 =>
      rintro c st' ⟨rfl, ⟨res, t, rfl, hF⟩ | ⟨out, ia, ib, p, r, rfl, m, i1, i2, i3⟩⟩
      · exact wpS_pure ⟨res, _, _, _, _, q, rfl, rfl, hF⟩
      try dsimp only
      refine wpS_bind (wpS_lift (wpAny_rule ⟨rfl, ?_⟩))
      refine wpS_bind (wpS_mono (wpS_forRange
        (I := fun y c st' => ∃ out ia ib mg p r q, c = (none, out, ia, ib, mg, p, r) ∧ st' = setG st q ∧ ML R a b out ia ib ∧ ia + 1 < a.size ∧ ib < b.size ∧ x + 2 + y ≤ ia + ib)
        (Q := fun c st' => ∃ q, st' = setG st q ∧ ((∃ res t, c = (some res, t) ∧ Fin R a b res) ∨ ∃ out ia ib mg p r, c = (none, out, ia, ib, mg, p, r) ∧ ML R a b out ia ib ∧ ia + 1 < a.size ∧ ib < b.size ∧ x + 2 ≤ ia + ib)) ?step2 ?fin2
        ⟨out, ia, ib, mg + 1, p, r, q, rfl, rfl, m, i1, i2, by (clear i2 i1 hx c2 c1 hb ha; omega)⟩) ?post2)
      case fin2 =>
        rintro c st' ⟨out, ia, ib, mg, p, r, q, rfl, rfl, m, i1, i2, i3⟩
        (clear hx c2 c1 hb ha; omega)
      case post2 =>
        rintro c st' ⟨q, rfl, ⟨res, t, rfl, hF⟩ | ⟨out, ia, ib, mg, p, r, rfl, m, i1, i2, i3⟩⟩
        · exact wpS_pure ⟨res, _, _, _, _, q, rfl, rfl, hF⟩
        · dsimp only
          refine wpS_bind (wpS_setG ?_)
          exact wpS_pure ⟨out, ia, ib, _, _, rfl, rfl, m, i1, i2, by (clear i2 i1 hx c2 c1 hb ha; omega)⟩
      case step2 =>
        rintro y c st' _ hy ⟨out, ia, ib, mg, p, r, q, rfl, rfl, m, i1, i2, i3⟩
        try dsimp only
        have main : ∀ q : Nat, ∀ {k : Unit → StateT SortSt Sem (ForInStep (Option (Array Keyed) × Array Keyed × Nat × Nat × Nat × Nat × Nat))} {Q' : ForInStep (Option (Array Keyed) × Array Keyed × Nat × Nat × Nat × Nat × Nat) → SortSt → Prop},
            wpS M A E s (k ()) Q' (setG st q) → ∀ q', wpS M A E s ((modify fun z => setG z q) >>= k) Q' (setG st q') := fun q k Q' hq q' => wpS_bind (wpS_modify hq)
        by_cases hm : mg > 1
        all_goals
          first | rw [if_pos hm] | rw [if_neg hm]
          refine main _ ?_ _
          refine wpS_bind (wpS_elem i2 ?_)
          refine wpS_bind (wpS_gallop O (st := setG st _) (left := false) hk (hB.at i2) hA (by (clear hm i3 i2 hy hx c2 c1 hb ha; omega)) (by (clear hm i3 i2 hy hx c2 c1 hb ha; omega)) (by rw [show ia + (a.size - ia) = a.size by (clear hm i3 i2 hy hx c2 c1 hb ha; omega)]; exact m.srtA O) fun n n1 n2 n3 => ?_)
          try dsimp only
          have mA : ML R a b (out ++ a.extract ia (ia + n)) (ia + n) ib := m.takeAs fun x hx y hy => by
            obtain ⟨j, j1, j2, j3, rfl⟩ := mem_cut hx
            obtain ⟨l, l1, l2, rfl⟩ := mem_drop hy
            have e := n2 (j - ia) (by (clear l2 l1 j2 n1 hm i3 i2 i1 c2 c1 hb ha; omega))
            unfold bey at e
            rw [if_neg Bool.false_ne_true, show ia + (j - ia) = j by (clear l2 l1 j3 j2 n1 hm i3 i2 i1 c2 c1 hb ha; omega)] at e
            have e' : R (g b ib) (g a j) = false := by simpa using e
            exact O.trans e' (m.srtB O ib l (Nat.le_refl _) l1 l2)
          have nlt : ia + n < a.size := by
            refine Nat.lt_of_not_le fun z => ?_
            have e := n2 (a.size - 1 - ia) (by (clear n1 hm i3 i2 hy hx c2 c1 hb ha; omega))
            unfold bey at e
            rw [if_neg Bool.false_ne_true, show ia + (a.size - 1 - ia) = a.size - 1 by (clear z n1 hm i3 i2 hy hx c2 c1 hb ha; omega), hl (g b ib) (List.mem_of_getElem? (g_list i2))] at e
            cases e
          have eb : R (g b ib) (g a (ia + n)) = true := by
            have e := n3 n (Nat.le_refl _) (by (clear n1 hm i3 i2 i1 hy hx c2 c1 hb ha; omega))
            unfold bey at e
            rw [if_neg Bool.false_ne_true] at e
            simpa using e
          by_cases hn : n > 0
          all_goals
            first
              | rw [if_pos hn]
                by_cases d1 : ia + n + 1 = a.size
                · rw [if_pos (by simp [d1])]
                  exact wpS_pure ⟨_, rfl, .inl ⟨_, _, rfl, mA.last O d1 hl⟩⟩
                rw [if_neg (by simpa using d1), if_neg (by simp; (clear d1 hn n1 hm i3 i2 i1 hy hx c2 c1 hb ha; omega))]
              | rw [if_neg hn]
                have n0 : n = 0 := by (clear nlt n1 hm i3 i2 i1 hy hx c2 c1 hb ha; omega)
                subst n0
                replace mA : ML R a b out ia ib := m
                rw [Nat.add_zero] at nlt eb
                have d1 : ¬ ia + 1 = a.size := by (clear hn nlt n1 hm i3 i2 hy hx c2 c1 hb ha; omega)
            refine wpS_bind (wpS_elem i2 ?_)
            have mB := mA.takeB i2 (two mA (by (clear d1 hn n1 hm i3 i2 hy hx c2 c1 hb ha; omega)) i2 eb)
            try dsimp only
            by_cases d2 : ib + 1 = b.size
            · rw [if_pos (by simp [d2])]
              exact wpS_pure ⟨_, rfl, .inl ⟨_, _, rfl, mB.doneB d2⟩⟩
            rw [if_neg (by simpa using d2)]
            refine wpS_bind (wpS_elem (by (clear d2 d1 hn n1 hm i3 i2 hy hx c2 c1 hb ha; omega)) ?_)
            refine wpS_bind (wpS_gallop O (st := setG st _) (left := true) hk (hA.at (by (clear d2 d1 hn n1 hm i3 i2 hy hx c2 c1 hb ha; omega))) hB (by (clear d1 hn nlt n1 hm i3 i1 hy hx c2 c1 hb ha; omega)) (by (clear d2 d1 hn nlt n1 hm i3 i1 hy hx c2 c1 hb ha; omega)) (by rw [show ib + 1 + (b.size - (ib + 1)) = b.size by (clear d2 d1 hn nlt n1 hm i3 i1 hy hx c2 c1 hb ha; omega)]; exact mB.srtB O) fun l l1 l2 l3 => ?_)
            try dsimp only
            have mC := mB.takeBs (k := l) fun y hy x hx => by
              obtain ⟨j, j1, j2, j3, rfl⟩ := mem_cut hy
              obtain ⟨t, t1, t2, rfl⟩ := mem_drop hx
              have e := l2 (j - (ib + 1)) (by (clear t2 t1 j2 l1 d2 d1 hn nlt n1 hm i3 i2 i1 c2 c1 hb ha; omega))
              unfold bey at e
              rw [if_pos rfl, show ib + 1 + (j - (ib + 1)) = j by (clear t2 t1 j3 j2 l1 d2 d1 hn nlt n1 hm i3 i2 i1 c2 c1 hb ha; omega)] at e
              exact O.trans (O.le_of_lt e) (mB.srtA O _ t (Nat.le_refl _) t1 t2)
            by_cases hl0 : l > 0
            all_goals
              first
                | rw [if_pos hl0]
                  by_cases d3 : ib + 1 + l = b.size
                  · rw [if_pos (by simp [d3])]
                    exact wpS_pure ⟨_, rfl, .inl ⟨_, _, rfl, mC.doneB d3⟩⟩
                  rw [if_neg (by simpa using d3)]
                | rw [if_neg hl0]
                  have l0 : l = 0 := by (clear l1 d2 d1 hn nlt n1 hm i3 i2 i1 hy hx c2 c1 hb ha; omega)
                  subst l0
                  have d3 : ¬ ib + 1 + 0 = b.size := by (clear hl0 l1 d1 hn nlt n1 hm i3 i2 i1 hy hx c2 c1 hb ha; omega)
                  replace mC := mB
              refine wpS_bind (wpS_elem (by (clear d3 hl0 l1 d2 d1 hn n1 hm i3 i2 hy hx c2 c1 hb ha; omega)) ?_)
              have ea := l3 _ (Nat.le_refl _) (by (clear hl0 d1 hn nlt n1 hm i3 i1 hy hx c2 c1 hb ha; omega))
              unfold bey at ea
              rw [if_pos rfl] at ea
              have mD := mC.takeA (by (clear d3 hl0 l1 d2 d1 hn n1 hm i3 i2 hy hx c2 c1 hb ha; omega)) fun y hy => by
                obtain ⟨j, j1, j2, rfl⟩ := mem_drop hy
                exact O.trans ea (mC.srtB O _ j (Nat.le_refl _) j1 j2)
              try dsimp only
              split
              · rename_i d4
                exact wpS_pure ⟨_, rfl, .inl ⟨_, _, rfl, mD.last O (by simpa using d4) hl⟩⟩
              · rename_i d4
                have d5 := d4
                simp at d5
                split
                · exact wpS_pure ⟨_, rfl, .inr ⟨_, _, _, _, _, _, rfl, mD, by (clear d3 hl0 l1 d2 hn n1 hm i3 i2 hy hx c2 c1 hb ha; omega), by (clear d5 hl0 d1 hn nlt n1 hm i3 i1 hy hx c2 c1 hb ha; omega), by (clear d5 d3 hl0 l1 d2 d1 hn nlt n1 hm i2 i1 hy hx c2 c1 hb ha; omega)⟩⟩
                · exact wpS_pure ⟨_, _, _, _, _, _, _, rfl, rfl, mD, by (clear d3 hl0 l1 d2 hn n1 hm i3 i2 hy hx c2 c1 hb ha; omega), by (clear d5 hl0 d1 hn nlt n1 hm i3 i1 hy hx c2 c1 hb ha; omega), by (clear d5 d3 hl0 l1 d2 d1 hn nlt n1 hm i2 i1 hy hx c2 c1 hb ha; omega)⟩
end
end Tim

end
section
set_option autoImplicit false
set_option autoImplicit false
set_option linter.all false
namespace Tim
open PySem PyProof.Rows
section
variable {M : Model} {A : Around} {E : Value → Shared → Prop} {s : Shared} {kd : SortKind} {Ok : Keyed → Prop} {R : Keyed → Keyed → Bool}
structure MH (R : Keyed → Keyed → Bool) (a b out : Array Keyed) (na nb : Nat) : Prop where
  perm : (a.toList.take na ++ (b.toList.take nb ++ out.toList.reverse)).Perm (a.toList ++ b.toList)
  sa : (a.toList.take na ++ out.toList.reverse).Pairwise (le R)
  sb : (b.toList.take nb ++ out.toList.reverse).Pairwise (le R)
theorem MH.flip {a b out : Array Keyed} {na nb : Nat} (h : MH R a b out na nb) : MH R b a out nb na := by
  refine ⟨?_, h.sb, h.sa⟩
  rw [← List.append_assoc]
  refine (List.Perm.append_right _ List.perm_append_comm).trans ?_
  rw [List.append_assoc]
  exact h.perm.trans List.perm_append_comm
theorem MH.doneA {a b out : Array Keyed} {na nb : Nat} (h : MH R a b out na nb) (e : na = 0 ∨ nb = 0) : Fin R a b (a.extract 0 na ++ b.extract 0 nb ++ out.reverse) := by
  have e1 : (a.extract 0 na ++ b.extract 0 nb ++ out.reverse).toList = a.toList.take na ++ (b.toList.take nb ++ out.toList.reverse) := by
    rw [Array.toList_append, Array.toList_append, ext_head, ext_head, Array.toList_reverse, List.append_assoc]
  refine ⟨by rw [e1]; exact h.perm, ?_⟩
  rw [e1]
  rcases e with e | e
  · subst e; simpa using h.sb
  · subst e; simpa using h.sa
theorem MH.first {a b out : Array Keyed} {na nb : Nat} (h : MH R a b out na nb) (hle : ∀ y ∈ b.toList.take nb, ∀ x ∈ a.toList.take na, le R y x) : Fin R a b (b.extract 0 nb ++ a.extract 0 na ++ out.reverse) := by
  have e1 : (b.extract 0 nb ++ a.extract 0 na ++ out.reverse).toList = b.toList.take nb ++ (a.toList.take na ++ out.toList.reverse) := by
    rw [Array.toList_append, Array.toList_append, ext_head, ext_head, Array.toList_reverse, List.append_assoc]
  refine ⟨?_, ?_⟩
  · rw [e1]
    exact h.flip.perm.trans List.perm_append_comm
  · rw [e1, List.pairwise_append]
    have p := List.pairwise_append.mp h.sb
    refine ⟨p.1, h.sa, fun x hx y hy => ?_⟩
    rcases List.mem_append.mp hy with z | z
    · exact hle x hx y z
    · exact p.2.2 x hx y z
theorem MH.takeAs {a b out : Array Keyed} {na nb q : Nat} (h : MH R a b out na nb) (hq : q ≤ na) (hx : ∀ x ∈ (a.toList.drop q).take (na - q), ∀ y ∈ b.toList.take nb, le R y x) : MH R a b (out ++ (a.extract q na).reverse) q nb := by
  have e0 : (a.extract q na).toList = (a.toList.drop q).take (na - q) := by
    have := ext_cut a q (na - q)
    rwa [show q + (na - q) = na by omega] at this
  have e1 : (out ++ (a.extract q na).reverse).toList.reverse = (a.toList.drop q).take (na - q) ++ out.toList.reverse := by
    rw [Array.toList_append, Array.toList_reverse, List.reverse_append, List.reverse_reverse, e0]
  have e2 : a.toList.take na = a.toList.take q ++ (a.toList.drop q).take (na - q) := by
    rw [List.take_drop, show q + (na - q) = na by omega]
    have := (List.take_append_drop q (a.toList.take na)).symm
    rwa [List.take_take, show min q na = q by omega] at this
  have sa := h.sa
  have perm := h.perm
  rw [e2, List.append_assoc] at sa perm
  refine ⟨?_, ?_, ?_⟩
  · rw [e1]
    refine List.Perm.trans (List.Perm.append_left _ ?_) perm
    rw [← List.append_assoc, ← List.append_assoc]
    exact List.Perm.append_right _ List.perm_append_comm
  · rw [e1]; exact sa
  · rw [e1, List.pairwise_append]
    have p := List.pairwise_append.mp h.sb
    have p2 := (List.pairwise_append.mp sa).2.1
    refine ⟨p.1, p2, fun x hx' y hy => ?_⟩
    rcases List.mem_append.mp hy with z | z
    · exact hx y z x hx'
    · exact p.2.2 x hx' y z
theorem push_rev {a out : Array Keyed} {i : Nat} (h : i < a.size) : out.push (g a i) = out ++ (a.extract i (i + 1)).reverse := by
  rw [push_ext h]
  congr 1
  apply Array.toList_inj.mp
  rw [Array.toList_reverse, ext_cut, drop_g h]
  rfl
theorem MH.takeA {a b out : Array Keyed} {na nb : Nat} (h : MH R a b out (na + 1) nb) (hi : na < a.size) (hx : ∀ y ∈ b.toList.take nb, le R y (g a na)) : MH R a b (out.push (g a na)) na nb := by
  rw [push_rev hi]
  refine h.takeAs (by (clear hi; omega)) fun x hx' y hy => ?_
  rw [Nat.add_sub_cancel_left, drop_g hi] at hx'
  have : x = g a na := by simpa using hx'
  subst this; exact hx y hy
theorem MH.takeB {a b out : Array Keyed} {na nb : Nat} (h : MH R a b out na (nb + 1)) (hi : nb < b.size) (hx : ∀ x ∈ a.toList.take na, le R x (g b nb)) : MH R a b (out.push (g b nb)) na nb := (h.flip.takeA hi hx).flip
theorem MH.takeBs {a b out : Array Keyed} {na nb q : Nat} (h : MH R a b out na nb) (hq : q ≤ nb) (hx : ∀ y ∈ (b.toList.drop q).take (nb - q), ∀ x ∈ a.toList.take na, le R x y) : MH R a b (out ++ (b.extract q nb).reverse) na q := (h.flip.takeAs hq hx).flip
theorem wpS_high (O : Ord M A E s kd Ok R) {st : SortSt} {a b : Array Keyed} {Q : Array Keyed → SortSt → Prop} (hk : kindOf st = kd) (hA : All Ok a) (hB : All Ok b) (ha : 0 < a.size) (hb : 0 < b.size)
    (sa : Srt R a 0 a.size) (sb : Srt R b 0 b.size) (hf : R (g b 0) (g a 0) = true) (hl : ∀ y ∈ b.toList, R y (g a (a.size - 1)) = true)
    (h : ∀ res q, Fin R a b res → Q res (setG st q)) : wpS M A E s (mergeHiX a b) Q st := by
  have pw : ∀ {x : Array Keyed}, Srt R x 0 x.size → x.toList.Pairwise (le R) := fun {x} hs => by
    rw [List.pairwise_iff_getElem]
    intro i j hi hj hij
    have q := hs i j (Nat.zero_le _) (by (clear hj hi hb ha; omega)) (by simpa using hj)
    have gi := g_list (a := x) (i := i) (by simpa using hi)
    have gj := g_list (a := x) (i := j) (by simpa using hj)
    rw [List.getElem?_eq_getElem hi] at gi
    rw [List.getElem?_eq_getElem hj] at gj
    rw [Option.some.inj gi, Option.some.inj gj]
    exact q
  have two : ∀ {na nb : Nat}, na < a.size → nb < b.size → R (g b nb) (g a na) = true → ∀ y ∈ b.toList.take (nb + 1), le R y (g a na) := fun {na nb} h1 h2 e y hy => by
    obtain ⟨j, j1, j2, rfl⟩ := mem_take hy
    exact O.trans (sb j nb (Nat.zero_le _) (by (clear j2 h2 h1 hb ha; omega)) h2) (O.le_of_lt e)
  have one : ∀ {na nb : Nat}, na < a.size → nb < b.size → R (g b nb) (g a na) = false → ∀ x ∈ a.toList.take (na + 1), le R x (g b nb) := fun {na nb} h1 h2 e x hx => by
    obtain ⟨j, j1, j2, rfl⟩ := mem_take hx
    exact O.trans (sa j na (Nat.zero_le _) (by (clear j2 h2 h1 hb ha; omega)) h1) e
  have fst : ∀ {out : Array Keyed} {na nb : Nat}, MH R a b out na nb → nb = 1 → Fin R a b (b.extract 0 nb ++ a.extract 0 na ++ out.reverse) := fun {out na nb} m e => by
    refine m.first fun y hy x hx => ?_
    obtain ⟨j, j1, j2, rfl⟩ := mem_take hy
    obtain ⟨i, i1, i2, rfl⟩ := mem_take hx
    have ej : j = 0 := by (clear i2 i1 j2 hb ha; omega)
    subst ej
    exact O.trans (O.le_of_lt hf) (sa 0 i (Nat.le_refl _) (Nat.zero_le _) i2)
  have m0 : MH R a b #[] (a.size - 1 + 1) b.size := by
    have ea : a.toList.take (a.size - 1 + 1) = a.toList := List.take_of_length_le (by simp; (clear hb ha; omega))
    have eb : b.toList.take b.size = b.toList := List.take_of_length_le (by simp)
    exact ⟨by rw [ea, eb]; simp, by rw [ea]; simpa using pw sa, by rw [eb]; simpa using pw sb⟩
  have m1 : MH R a b #[g a (a.size - 1)] (a.size - 1) b.size := m0.takeA (by (clear hb; omega)) fun y hy => O.le_of_lt (hl y (List.mem_of_mem_take hy))
  unfold mergeHiX
  refine wpS_bind (wpS_lift (wpAny_rule ⟨rfl, ?_⟩))
  refine wpS_bind (wpS_elem (i := a.size - 1) (by (clear hb; omega)) ?_)
  try dsimp only
  by_cases c1 : a.size - 1 = 0
  · rw [if_pos (by simp [c1])]
    exact wpS_pure (h _ (gallopOf st) (m1.doneA (.inl c1)))
  rw [if_neg (by simpa using c1)]
  by_cases c2 : b.size = 1
  · rw [if_pos (by simp [c2])]
    exact wpS_pure (h _ (gallopOf st) (fst m1 c2))
  rw [if_neg (by simpa using c2)]
  refine wpS_bind (wpS_get ?_)
  try dsimp only
  refine wpS_bind (wpS_mono (wpS_forRange
    (I := fun x c st' => ∃ out na nb mg q, c = (none, na, nb, out, mg) ∧ st' = setG st q ∧ MH R a b out na nb ∧ 1 ≤ na ∧ na ≤ a.size ∧ 2 ≤ nb ∧ nb ≤ b.size ∧ na + nb + x + 1 ≤ a.size + b.size)
    (Q := fun c st' => ∃ res t q, c = (some res, t) ∧ st' = setG st q ∧ Fin R a b res) ?step ?fin ⟨_, a.size - 1, b.size, _, gallopOf st, rfl, rfl, m1, by (clear c2 hb ha; omega), by (clear c2 c1 hb ha; omega), by (clear c1 ha; omega), by (clear c2 c1 hb ha; omega), by (clear c2 c1 hb; omega)⟩) ?post)
  case fin =>
    rintro c st' ⟨out, na, nb, mg, q, rfl, rfl, m, i1, i2, i3, i4, i5⟩
    (clear i4 i3 i2 i1 c2 c1 hb ha; omega)
  case post =>
    rintro c st' ⟨res, t, q, rfl, rfl, hF⟩
    exact wpS_pure (h res q hF)
  case step =>
    rintro x c st' _ hx ⟨out, na, nb, mg, q, rfl, rfl, m, i1, i2, i3, i4, i5⟩
    try dsimp only
    refine wpS_bind (wpS_mono (wpS_forRange
      (I := fun y c st' => st' = setG st q ∧ ∃ out na nb p r, c = (none, na, nb, out, p, r) ∧ MH R a b out na nb ∧ 1 ≤ na ∧ na ≤ a.size ∧ 2 ≤ nb ∧ nb ≤ b.size ∧ na + nb + x + 1 + y ≤ a.size + b.size)
      (Q := fun c st' => st' = setG st q ∧ ((∃ res t, c = (some res, t) ∧ Fin R a b res) ∨ ∃ out na nb p r, c = (none, na, nb, out, p, r) ∧ MH R a b out na nb ∧ 1 ≤ na ∧ na ≤ a.size ∧ 2 ≤ nb ∧ nb ≤ b.size ∧ na + nb + x + 2 ≤ a.size + b.size)) ?step1 ?fin1
      ⟨rfl, out, na, nb, 0, 0, rfl, m, i1, i2, i3, i4, by (clear i4 i3 i2 i1 hx c2 c1 hb ha; omega)⟩) ?post1)
    case fin1 =>
      rintro c st' ⟨_, out, na, nb, p, r, rfl, m, i1, i2, i3, i4, i5⟩
      (clear i4 i3 i2 i1 hx c2 c1 hb ha; omega)
    case step1 =>
      rintro y c st' _ hy ⟨rfl, out, na, nb, p, r, rfl, m, i1, i2, i3, i4, i5⟩
      try dsimp only
      refine wpS_bind (wpS_elem (by (clear i5 i3 i2 i1 hy hx c2 c1 hb ha; omega)) ?_)
      refine wpS_bind (wpS_elem (by (clear i5 i4 i3 i1 hy hx c2 c1 hb ha; omega)) ?_)
      refine wpS_bind (O.lt (st := setG st q) (hB.at (by (clear i5 i3 i2 i1 hy hx c2 c1 hb ha; omega))) (hA.at (by (clear i5 i4 i3 i1 hy hx c2 c1 hb ha; omega))) hk ?_)
      cases e : R (g b (nb - 1)) (g a (na - 1)) with
      | true =>
        try dsimp only
        rw [if_pos rfl]
        refine wpS_bind (wpS_elem (by (clear i5 i4 i3 i1 hy hx c2 c1 hb ha; omega)) ?_)
        have m' : MH R a b (out.push (g a (na - 1))) (na - 1) nb := MH.takeA (by rw [show na - 1 + 1 = na by (clear i5 i4 i3 i2 hy hx c2 c1 hb ha; omega)]; exact m) (by (clear i5 i4 i3 i1 hy hx c2 c1 hb ha; omega)) (by have := two (na := na - 1) (nb := nb - 1) (by (clear i5 i4 i3 i1 hy hx c2 c1 hb ha; omega)) (by (clear i5 i3 i2 i1 hy hx c2 c1 hb ha; omega)) e; rwa [show nb - 1 + 1 = nb by (clear i5 i4 i2 i1 hy hx c2 c1 hb ha; omega)] at this)
        try dsimp only
        by_cases d1 : na - 1 = 0
        · rw [if_pos (by simp [d1])]
          exact wpS_pure ⟨rfl, .inl ⟨_, _, rfl, m'.doneA (.inl d1)⟩⟩
        · rw [if_neg (by simpa using d1)]
          by_cases d2 : p + 1 ≥ mg
          · rw [if_pos d2]
            exact wpS_pure ⟨rfl, .inr ⟨_, na - 1, nb, _, _, rfl, m', by (clear d2 i5 i4 i3 i2 i1 hy hx c2 c1 hb ha; omega), by (clear d2 d1 i5 i4 i3 i1 hy hx c2 c1 hb ha; omega), i3, i4, by (clear d2 d1 i4 i3 i2 hy hx c2 c1 hb ha; omega)⟩⟩
          · rw [if_neg d2]
            exact wpS_pure ⟨rfl, _, na - 1, nb, _, _, rfl, m', by (clear d2 i5 i4 i3 i2 i1 hy hx c2 c1 hb ha; omega), by (clear d2 d1 i5 i4 i3 i1 hy hx c2 c1 hb ha; omega), i3, i4, by (clear d2 d1 i4 i3 i2 hy hx c2 c1 hb ha; omega)⟩
      | false =>
        try dsimp only
        rw [if_neg Bool.false_ne_true]
        refine wpS_bind (wpS_elem (by (clear i5 i3 i2 i1 hy hx c2 c1 hb ha; omega)) ?_)
        have m' : MH R a b (out.push (g b (nb - 1))) na (nb - 1) := MH.takeB (by rw [show nb - 1 + 1 = nb by (clear i5 i4 i2 i1 hy hx c2 c1 hb ha; omega)]; exact m) (by (clear i5 i3 i2 i1 hy hx c2 c1 hb ha; omega)) (by have := one (na := na - 1) (nb := nb - 1) (by (clear i5 i4 i3 i1 hy hx c2 c1 hb ha; omega)) (by (clear i5 i3 i2 i1 hy hx c2 c1 hb ha; omega)) e; rwa [show na - 1 + 1 = na by (clear i5 i4 i3 i2 hy hx c2 c1 hb ha; omega)] at this)
        try dsimp only
        by_cases d1 : nb - 1 = 1
        · rw [if_pos (by simp [d1])]
          exact wpS_pure ⟨rfl, .inl ⟨_, _, rfl, fst m' d1⟩⟩
        · rw [if_neg (by simpa using d1)]
          by_cases d2 : r + 1 ≥ mg
          · rw [if_pos d2]
            exact wpS_pure ⟨rfl, .inr ⟨_, na, nb - 1, _, _, rfl, m', i1, i2, by (clear d2 i5 i4 i2 i1 hy hx c2 c1 hb ha; omega), by (clear d2 d1 i5 i3 i2 i1 hy hx c2 c1 hb ha; omega), by (clear d2 d1 i4 i2 i1 hy hx c2 c1 hb ha; omega)⟩⟩
          · rw [if_neg d2]
            exact wpS_pure ⟨rfl, _, na, nb - 1, _, _, rfl, m', i1, i2, by (clear d2 i5 i4 i2 i1 hy hx c2 c1 hb ha; omega), by (clear d2 d1 i5 i3 i2 i1 hy hx c2 c1 hb ha; omega), by (clear d2 d1 i4 i2 i1 hy hx c2 c1 hb ha; omega)⟩
    case post1 =>
      rintro c st' ⟨rfl, ⟨res, t, rfl, hF⟩ | ⟨out, na, nb, p, r, rfl, m, i1, i2, i3, i4, i5⟩⟩
      · exact wpS_pure ⟨res, _, q, rfl, rfl, hF⟩
      try dsimp only
      refine wpS_bind (wpS_lift (wpAny_rule ⟨rfl, ?_⟩))
      refine wpS_bind (wpS_mono (wpS_forRange
        (I := fun y c st' => ∃ out na nb mg p r q, c = (none, na, nb, out, mg, p, r) ∧ st' = setG st q ∧ MH R a b out na nb ∧ 1 ≤ na ∧ na ≤ a.size ∧ 2 ≤ nb ∧ nb ≤ b.size ∧ na + nb + x + 2 + y ≤ a.size + b.size)
        (Q := fun c st' => ∃ q, st' = setG st q ∧ ((∃ res t, c = (some res, t) ∧ Fin R a b res) ∨ ∃ out na nb mg p r, c = (none, na, nb, out, mg, p, r) ∧ MH R a b out na nb ∧ 1 ≤ na ∧ na ≤ a.size ∧ 2 ≤ nb ∧ nb ≤ b.size ∧ na + nb + x + 2 ≤ a.size + b.size)) ?step2 ?fin2
        ⟨out, na, nb, mg + 1, p, r, q, rfl, rfl, m, i1, i2, i3, i4, by (clear i4 i3 i2 i1 hx c2 c1 hb ha; omega)⟩) ?post2)
      case fin2 =>
        rintro c st' ⟨out, na, nb, mg, p, r, q, rfl, rfl, m, i1, i2, i3, i4, i5⟩
        (clear i4 i3 i2 i1 hx c2 c1 hb ha; omega)
      case post2 =>
        rintro c st' ⟨q, rfl, ⟨res, t, rfl, hF⟩ | ⟨out, na, nb, mg, p, r, rfl, m, i1, i2, i3, i4, i5⟩⟩
        · exact wpS_pure ⟨res, _, q, rfl, rfl, hF⟩
        · try dsimp only
          refine wpS_bind (wpS_setG ?_)
          exact wpS_pure ⟨out, na, nb, _, _, rfl, rfl, m, i1, i2, i3, i4, by (clear i4 i3 i2 i1 hx c2 c1 hb ha; omega)⟩
      case step2 =>
        rintro y c st' _ hy ⟨out, na, nb, mg, p, r, q, rfl, rfl, m, i1, i2, i3, i4, i5⟩
        try dsimp only
        have main : ∀ q : Nat, ∀ {k : Unit → StateT SortSt Sem (ForInStep (Option (Array Keyed) × Nat × Nat × Array Keyed × Nat × Nat × Nat))} {Q' : ForInStep (Option (Array Keyed) × Nat × Nat × Array Keyed × Nat × Nat × Nat) → SortSt → Prop},
            wpS M A E s (k ()) Q' (setG st q) → ∀ q', wpS M A E s ((modify fun z => setG z q) >>= k) Q' (setG st q') := fun q k Q' hq q' => wpS_bind (wpS_modify hq)
        by_cases hm : mg > 1
        all_goals
          first | rw [if_pos hm] | rw [if_neg hm]
          refine main _ ?_ _
          refine wpS_bind (wpS_elem (by (clear hm i5 i3 i2 i1 hy hx c2 c1 hb ha; omega)) ?_)
          refine wpS_bind (wpS_gallop O (st := setG st _) (left := false) hk (hB.at (by (clear hm i5 i3 i2 i1 hy hx c2 c1 hb ha; omega))) hA (by (clear hm i5 i4 i3 i2 hy hx c2 c1 hb ha; omega)) (by (clear hm i5 i4 i3 i1 hy hx c2 c1 hb ha; omega)) (fun i j j1 j2 j3 => sa i j (Nat.zero_le _) j2 (by (clear j2 j1 hm i5 i4 i3 i1 hy hx c2 c1 hb ha; omega))) fun n n1 n2 n3 => ?_)
          try dsimp only
          have mA : MH R a b (out ++ (a.extract n na).reverse) n nb := m.takeAs n1 fun x hx y hy => by
            obtain ⟨j, j1, j2, j3, rfl⟩ := mem_cut hx
            obtain ⟨l, l1, l2, rfl⟩ := mem_take hy
            have e := n3 j j1 (by (clear l2 l1 j2 j1 hm i5 i4 i3 i2 i1 c2 c1 hb ha; omega))
            unfold bey at e
            rw [if_neg Bool.false_ne_true, Nat.zero_add] at e
            have e' : R (g b (nb - 1)) (g a j) = true := by simpa using e
            exact O.trans (sb l (nb - 1) (Nat.zero_le _) (by (clear l2 j3 j2 j1 n1 hm i5 i4 i3 i2 i1 c2 c1 hb ha; omega)) (by (clear l2 l1 j3 j2 j1 n1 hm i5 i3 i2 i1 c2 c1 hb ha; omega))) (O.le_of_lt e')
          by_cases hn : na - n > 0
          all_goals
            first
              | rw [if_pos hn]
                by_cases d1 : n = 0
                · rw [if_pos (by simp [d1])]
                  exact wpS_pure ⟨_, rfl, .inl ⟨_, _, rfl, mA.doneA (.inl d1)⟩⟩
                rw [if_neg (by simpa using d1)]
              | rw [if_neg hn]
                have n0 : n = na := by (clear hm i5 i4 i3 i2 i1 hy hx c2 c1 hb ha; omega)
                subst n0
                replace mA := m
                have d1 : ¬ n = 0 := by (clear hn n1 i5 i2 hm i4 i3 hy hx c2 c1 hb ha; omega)
            refine wpS_bind (wpS_elem (by (clear d1 hn n1 hm i5 i3 i2 i1 hy hx c2 c1 hb ha; omega)) ?_)
            have eb : R (g b (nb - 1)) (g a (n - 1)) = false := by
              have e := n2 (n - 1) (by (clear hn n1 hm i5 i4 i3 i2 hy hx c2 c1 hb ha; omega))
              unfold bey at e
              rw [if_neg Bool.false_ne_true, Nat.zero_add] at e
              simpa using e
            have mB := MH.takeB (nb := nb - 1) (by rw [show nb - 1 + 1 = nb by (clear d1 hn n1 hm i5 i4 i2 i1 hy hx c2 c1 hb ha; omega)]; exact mA) (by (clear d1 hn n1 hm i5 i3 i2 i1 hy hx c2 c1 hb ha; omega)) (by have := one (na := n - 1) (nb := nb - 1) (by (clear d1 hn hm i5 i4 i3 i1 hy hx c2 c1 hb ha; omega)) (by (clear d1 hn n1 hm i5 i3 i2 i1 hy hx c2 c1 hb ha; omega)) eb; rwa [show n - 1 + 1 = n by (clear hn n1 hm i5 i4 i3 i2 hy hx c2 c1 hb ha; omega)] at this)
            try dsimp only
            by_cases d2 : nb - 1 = 1
            · rw [if_pos (by simp [d2])]
              exact wpS_pure ⟨_, rfl, .inl ⟨_, _, rfl, fst mB d2⟩⟩
            rw [if_neg (by simpa using d2)]
            refine wpS_bind (wpS_elem (by (clear d2 d1 hn hm i5 i4 i3 i1 hy hx c2 c1 hb ha; omega)) ?_)
            refine wpS_bind (wpS_gallop O (st := setG st _) (left := true) hk (hA.at (by (clear d2 d1 hn hm i5 i4 i3 i1 hy hx c2 c1 hb ha; omega))) hB (by (clear d2 d1 hn n1 hm i5 i4 i2 i1 hy hx c2 c1 hb ha; omega)) (by (clear d2 d1 hn n1 hm i5 i3 i2 i1 hy hx c2 c1 hb ha; omega)) (fun i j j1 j2 j3 => sb i j (Nat.zero_le _) j2 (by (clear j2 j1 d2 d1 hn n1 hm i5 i3 i2 i1 hy hx c2 c1 hb ha; omega))) fun l l1 l2 l3 => ?_)
            try dsimp only
            have mC := mB.takeBs l1 fun y hy x hx => by
              obtain ⟨j, j1, j2, j3, rfl⟩ := mem_cut hy
              obtain ⟨t, t1, t2, rfl⟩ := mem_take hx
              have e := l3 j j1 (by (clear t2 t1 j2 j1 d2 d1 hn n1 hm i5 i4 i3 i2 i1 c2 c1 hb ha; omega))
              unfold bey at e
              rw [if_pos rfl, Nat.zero_add] at e
              exact O.trans (sa t (n - 1) (Nat.zero_le _) (by (clear t2 j3 j2 j1 l1 d2 d1 hn n1 hm i5 i4 i3 i2 i1 c2 c1 hb ha; omega)) (by (clear t2 t1 j3 j2 j1 l1 d2 d1 hn hm i5 i4 i3 i1 c2 c1 hb ha; omega))) e
            by_cases hl0 : nb - 1 - l > 0
            all_goals
              first
                | rw [if_pos hl0]
                  by_cases d3 : l = 1
                  · rw [if_pos (by simp [d3])]
                    exact wpS_pure ⟨_, rfl, .inl ⟨_, _, rfl, fst mC d3⟩⟩
                  rw [if_neg (by simpa using d3)]
                  by_cases d5 : l = 0
                  · rw [if_pos (by simp [d5])]
                    exact wpS_pure ⟨_, rfl, .inl ⟨_, _, rfl, mC.doneA (.inr d5)⟩⟩
                  rw [if_neg (by simpa using d5)]
                | rw [if_neg hl0]
                  have l0 : l = nb - 1 := by (clear d2 d1 hn n1 hm i5 i4 i3 i2 i1 hy hx c2 c1 hb ha; omega)
                  subst l0
                  replace mC := mB
              refine wpS_bind (wpS_elem (by (clear hl0 l1 d2 d1 hn hm i5 i4 i3 i1 hy hx c2 c1 hb ha; omega)) ?_)
              have mD := MH.takeA (na := n - 1) (by rw [show n - 1 + 1 = n by (clear hl0 l1 d2 hn n1 hm i5 i4 i3 i2 hy hx c2 c1 hb ha; omega)]; exact mC) (by (clear hl0 l1 d2 d1 hn hm i5 i4 i3 i1 hy hx c2 c1 hb ha; omega)) fun y hy => by
                obtain ⟨j, j1, j2, rfl⟩ := mem_take hy
                have e := l2 j (by (clear j2 hl0 l1 d2 d1 hn n1 hm i5 i4 i3 i2 i1 hx c2 c1 hb ha; omega))
                unfold bey at e
                rw [if_pos rfl, Nat.zero_add] at e
                exact O.le_of_lt e
              try dsimp only
              by_cases d4 : n - 1 = 0
              · rw [if_pos (by simp [d4])]
                exact wpS_pure ⟨_, rfl, .inl ⟨_, _, rfl, mD.doneA (.inl d4)⟩⟩
              rw [if_neg (by simpa using d4)]
              split
              · exact wpS_pure ⟨_, rfl, .inr ⟨_, _, _, _, _, _, rfl, mD, by (clear hl0 l1 d2 d1 hn n1 hm i5 i4 i3 i2 i1 hy hx c2 c1 hb ha; omega), by (clear d4 hl0 l1 d2 d1 hn hm i5 i4 i3 i1 hy hx c2 c1 hb ha; omega), by (clear d4 hl0 l1 d1 hn n1 hm i5 i4 i2 i1 hy hx c2 c1 hb ha; omega), by (clear d4 hl0 d2 d1 hn n1 hm i5 i3 i2 i1 hy hx c2 c1 hb ha; omega), by (clear d4 hl0 d2 d1 hn hm i4 i3 i2 i1 hy hx c2 c1 hb ha; omega)⟩⟩
              · exact wpS_pure ⟨_, _, _, _, _, _, _, rfl, rfl, mD, by (clear hl0 l1 d2 d1 hn n1 hm i5 i4 i3 i2 i1 hy hx c2 c1 hb ha; omega), by (clear d4 hl0 l1 d2 d1 hn hm i5 i4 i3 i1 hy hx c2 c1 hb ha; omega), by (clear d4 hl0 l1 d1 hn n1 hm i5 i4 i2 i1 hy hx c2 c1 hb ha; omega), by (clear d4 hl0 d2 d1 hn n1 hm i5 i3 i2 i1 hy hx c2 c1 hb ha; omega), by (clear d4 hl0 d2 d1 hn hm i4 i2 hy hx c2 c1 hb ha; omega)⟩
end
end Tim

end
section
set_option autoImplicit false
set_option autoImplicit false
set_option linter.all false
namespace Tim
open PySem PyProof.Rows
noncomputable def wr (a : Array Keyed) (base : Nat) (ys : List Keyed) : Array Keyed := ys.zipIdx.foldl (fun a (p : Keyed × Nat) => a.setIfInBounds (base + p.2) p.1) a
theorem wr_gen : ∀ (ys : List Keyed) (o base : Nat) (a : Array Keyed) (k : Nat), base + o + ys.length ≤ a.size →
    ((ys.zipIdx o).foldl (fun a (p : Keyed × Nat) => a.setIfInBounds (base + p.2) p.1) a)[k]? = if base + o ≤ k ∧ k < base + o + ys.length then ys[k - (base + o)]? else a[k]?
  | [], o, base, a, k, h => by
    simp only [List.zipIdx_nil, List.foldl_nil, List.length_nil]
    rw [if_neg (by (clear h; omega))]
  | y :: ys, o, base, a, k, h => by
    simp only [List.length_cons] at h ⊢
    rw [List.zipIdx_cons, List.foldl_cons]
    rw [wr_gen ys (o + 1) base _ k (by rw [Array.size_setIfInBounds]; omega)]
    dsimp only
    by_cases h1 : base + (o + 1) ≤ k ∧ k < base + (o + 1) + ys.length
    · rw [if_pos h1, if_pos (by (clear h; omega)), show k - (base + o) = (k - (base + (o + 1))) + 1 by (clear h; omega)]
      rfl
    · rw [if_neg h1]
      by_cases h2 : k = base + o
      · subst h2
        rw [if_pos (by (clear h1 h; omega)), Array.getElem?_setIfInBounds_self_of_lt (by (clear h1; omega)), Nat.sub_self]
        rfl
      · rw [if_neg (by (clear h; omega)), Array.getElem?_setIfInBounds_ne (by (clear h1 h; omega))]
theorem wr_get {ys : List Keyed} {base : Nat} {a : Array Keyed} (h : base + ys.length ≤ a.size) (k : Nat) : (wr a base ys)[k]? = if base ≤ k ∧ k < base + ys.length then ys[k - base]? else a[k]? := by
  have := wr_gen ys 0 base a k (by omega)
  rw [Nat.add_zero] at this
  exact this
theorem wr_list {ys : List Keyed} {base : Nat} {a : Array Keyed} (h : base + ys.length ≤ a.size) : (wr a base ys).toList = a.toList.take base ++ (ys ++ a.toList.drop (base + ys.length)) := by
  apply List.ext_getElem?
  intro k
  rw [Array.getElem?_toList, wr_get h]
  by_cases h1 : k < base
  · rw [if_neg (by (clear h; omega)), List.getElem?_append_left (by simp; omega), List.getElem?_take_of_lt h1, Array.getElem?_toList]
  · rw [List.getElem?_append_right (by simp; (clear h; omega))]
    have e : (a.toList.take base).length = base := by simp; (clear h1; omega)
    rw [e]
    by_cases h2 : k < base + ys.length
    · rw [if_pos ⟨by (clear h2 e h; omega), h2⟩, List.getElem?_append_left (by (clear e h; omega))]
    · rw [if_neg (by (clear e h1 h; omega)), List.getElem?_append_right (by (clear e h1 h; omega)), List.getElem?_drop, Array.getElem?_toList]
      congr 1
      (clear e h1 h; omega)
noncomputable def seg (a : Array Keyed) (lo hi : Nat) : List Keyed := (a.toList.drop lo).take (hi - lo)
theorem seg_ext (a : Array Keyed) (lo hi : Nat) : (a.extract lo hi).toList = seg a lo hi := by
  unfold seg
  rw [Array.toList_extract, List.extract_eq_take_drop]
theorem seg_split {a : Array Keyed} {lo mid hi : Nat} (h1 : lo ≤ mid) (h2 : mid ≤ hi) : seg a lo mid ++ seg a mid hi = seg a lo hi := by
  unfold seg
  have e : a.toList.drop mid = (a.toList.drop lo).drop (mid - lo) := by rw [List.drop_drop]; congr 1; (clear h2; omega)
  rw [e, show hi - lo = (mid - lo) + (hi - mid) by omega, List.take_add]
theorem seg_len {a : Array Keyed} {lo hi : Nat} (h : hi ≤ a.size) : (seg a lo hi).length = hi - lo := by
  unfold seg; simp; omega
theorem seg_mem {a : Array Keyed} {lo hi : Nat} {x : Keyed} (h : x ∈ seg a lo hi) : ∃ j, lo ≤ j ∧ j < a.size ∧ j < hi ∧ x = g a j := by
  by_cases z : lo ≤ hi
  · obtain ⟨j, a1, a2, a3, a4⟩ := mem_cut h
    exact ⟨j, a1, a2, by (clear a2 a1; omega), a4⟩
  · unfold seg at h
    rw [show hi - lo = 0 by omega] at h
    simp at h
theorem g_seg {a : Array Keyed} {lo hi i : Nat} (h : lo + i < hi) (hz : hi ≤ a.size) : g (a.extract lo hi) i = g a (lo + i) := by
  apply g_congr
  rw [Array.getElem?_extract]
  rw [if_pos (by omega)]
section
variable {M : Model} {A : Around} {E : Value → Shared → Prop} {s : Shared} {kd : SortKind} {Ok : Keyed → Prop} {R : Keyed → Keyed → Bool}
noncomputable abbrev setPA (st : SortSt) (p : Array (Nat × Nat × Nat)) (a : Array Keyed) (q : Nat) : SortSt := SortSt.mk' (kindOf st) a p q (failedOf st)
theorem srt_extract {a : Array Keyed} {lo hi : Nat} (h : Srt R a lo hi) (hz : hi ≤ a.size) : Srt R (a.extract lo hi) 0 (a.extract lo hi).size := fun i j _ h2 h3 => by
  have e : (a.extract lo hi).size = hi - lo := by rw [Array.size_extract]; (clear h3 h2; omega)
  rw [e] at h3
  rw [g_seg (by (clear e hz; omega)) hz, g_seg (by (clear e h2 hz; omega)) hz]
  exact h _ _ (by (clear e h3 h2 hz; omega)) (by (clear e h3 hz; omega)) (by (clear e h2 hz; omega))
theorem wpS_set {σ : Type} {x : σ} {Q : PUnit → σ → Prop} {st : σ} (h : Q ⟨⟩ x) : wpS M A E s (set x : StateT σ Sem PUnit) Q st := by
  unfold wpS; rw [StateT.run_set]; exact wpAny_pure ⟨rfl, h⟩
theorem srt_join (O : Ord M A E s kd Ok R) {a : Array Keyed} {lo mid hi : Nat} (h1 : Srt R a lo mid) (h2 : Srt R a mid hi) (hm : lo < mid) (hh : mid < hi) (e : le R (g a (mid - 1)) (g a mid)) : Srt R a lo hi := fun i j a1 a2 a3 => by
  by_cases hj : j < mid
  · exact h1 i j a1 a2 hj
  · by_cases hi' : i < mid
    · exact O.trans (h1 i (mid - 1) a1 (by (clear hj a3 a2 a1 hh hm; omega)) (by (clear hi' hj a3 a2 a1 hh; omega))) (O.trans e (h2 mid j (Nat.le_refl _) (by (clear hi' a3 a2 a1 hh hm; omega)) a3))
    · exact h2 i j (by (clear hj a3 a2 a1 hh hm; omega)) a2 a3
theorem wpS_merge (O : Ord M A E s kd Ok R) {st : SortSt} {i sa na nb pw pw2 : Nat} {Q : Bool → SortSt → Prop} (hk : kindOf st = kd) (hA : All Ok (arrOf st)) (hF : failedOf st = none)
    (p1 : (pendingOf st)[i]? = some (sa, na, pw)) (p2 : (pendingOf st)[i + 1]? = some (sa + na, nb, pw2)) (ha : 1 ≤ na) (hb : 1 ≤ nb) (hz : sa + na + nb ≤ (arrOf st).size)
    (s1 : Srt R (arrOf st) sa (sa + na)) (s2 : Srt R (arrOf st) (sa + na) (sa + na + nb))
    (h : ∀ a' q, Stir (arrOf st) a' sa (sa + na + nb) → Srt R a' sa (sa + na + nb) → Q true (setPA st (((pendingOf st).setIfInBounds i (sa, na + nb, pw)).eraseIdxIfInBounds (i + 1)) a' q)) :
    wpS M A E s (mergeAt' i) Q st := by
  unfold mergeAt'
  refine wpS_bind (wpS_get ?_)
  rw [p1, p2]
  try dsimp only
  refine wpS_bind (wpS_set ?_)
  generalize hP : ((pendingOf st).setIfInBounds i (sa, na + nb, pw)).eraseIdxIfInBounds (i + 1) = P at h ⊢
  refine wpS_bind (wpS_elem (arr := arrOf st) (by (clear ha; omega)) ?_)
  refine wpS_bind (wpS_gallop O (st := setPA st P (arrOf st) (gallopOf st)) (left := false) (arr := arrOf st) hk (hA.at (by (clear ha; omega))) hA (by (clear hz hb; omega)) (by (clear hb ha; omega)) s1 fun k k1 k2 k3 => ?_)
  try dsimp only
  have lowP : ∀ t, sa ≤ t → t < sa + k → le R (g (arrOf st) t) (g (arrOf st) (sa + na)) := fun t t1 t2 => by
    have e := k2 (t - sa) (by (clear k1 hz hb ha; omega))
    unfold bey at e
    rw [if_neg Bool.false_ne_true, show sa + (t - sa) = t by (clear t2 k1 hz hb ha; omega)] at e
    simpa [le] using e
  by_cases c1 : na - k = 0
  · rw [if_pos (by simp [c1])]
    refine wpS_pure (h (arrOf st) (gallopOf st) (Stir.refl _ _ _) (srt_join O s1 s2 (by (clear c1 k1 hz hb; omega)) (by (clear c1 k1 hz ha; omega)) (lowP _ (by (clear c1 k1 hz hb; omega)) (by (clear k1 hz hb; omega)))))
  rw [if_neg (by simpa using c1)]
  refine wpS_bind (wpS_elem (arr := arrOf st) (by (clear c1 hb; omega)) ?_)
  have eL : sa + k + (na - k) - 1 = sa + na - 1 := by (clear c1 hz hb ha; omega)
  rw [eL]
  refine wpS_bind (wpS_gallop O (st := setPA st P (arrOf st) (gallopOf st)) (left := true) (arr := arrOf st) hk (hA.at (by (clear eL c1 k1 hb; omega))) hA (by (clear eL c1 k1 hz ha; omega)) (by (clear eL c1 k1 hb ha; omega)) s2 fun l l1 l2 l3 => ?_)
  try dsimp only
  have highZ : ∀ t, sa + na + l ≤ t → t < sa + na + nb → le R (g (arrOf st) (sa + na - 1)) (g (arrOf st) t) := fun t t1 t2 => by
    have e := l3 (t - (sa + na)) (by (clear t2 l1 eL c1 k1 hz hb ha; omega)) (by (clear t1 l1 eL c1 k1 hz ha; omega))
    unfold bey at e
    rw [if_pos rfl, show sa + na + (t - (sa + na)) = t by (clear t2 l1 eL c1 k1 hz hb ha; omega)] at e
    exact e
  by_cases c2 : l = 0
  · rw [if_pos (by simp [c2])]
    refine wpS_pure (h (arrOf st) (gallopOf st) (Stir.refl _ _ _) (srt_join O s1 s2 (by (clear c2 l1 eL c1 k1 hz hb; omega)) (by (clear c2 l1 eL c1 k1 hz ha; omega)) (highZ _ (by (clear l1 eL c1 k1 hz hb ha; omega)) (by (clear c2 l1 eL c1 k1 hz ha; omega)))))
  rw [if_neg (by simpa using c2)]
  have zx : ((arrOf st).extract (sa + k) (sa + na)).size = na - k := by rw [Array.size_extract]; (clear c2 l1 eL c1 k1 hb ha; omega)
  have zy : ((arrOf st).extract (sa + na) (sa + na + l)).size = l := by rw [Array.size_extract]; (clear zx c2 eL c1 k1 hb ha; omega)
  have ax : All Ok ((arrOf st).extract (sa + k) (sa + na)) := fun x hx => by
    rw [seg_ext] at hx
    obtain ⟨j, _, j2, _, rfl⟩ := seg_mem hx
    exact hA.at j2
  have ay : All Ok ((arrOf st).extract (sa + na) (sa + na + l)) := fun x hx => by
    rw [seg_ext] at hx
    obtain ⟨j, _, j2, _, rfl⟩ := seg_mem hx
    exact hA.at j2
  have sx := srt_extract (lo := sa + k) (hi := sa + na) (fun i j a1 a2 a3 => s1 i j (by (clear a3 a2 zy zx c2 l1 eL c1 k1 hz hb ha; omega)) a2 a3) (by (clear zy zx c2 l1 eL c1 k1 hb ha; omega))
  have sy := srt_extract (lo := sa + na) (hi := sa + na + l) (fun i j a1 a2 a3 => s2 i j (by (clear a3 a2 zy zx c2 l1 eL c1 k1 hz hb ha; omega)) a2 (by (clear a2 a1 zy zx c2 eL c1 k1 hz hb ha; omega))) (by (clear zy zx c2 eL c1 k1 hb ha; omega))
  have hf : R (g ((arrOf st).extract (sa + na) (sa + na + l)) 0) (g ((arrOf st).extract (sa + k) (sa + na)) 0) = true := by
    rw [g_seg (by (clear zy zx l1 eL c1 k1 hz hb ha; omega)) (by (clear zy zx c2 eL c1 k1 hb ha; omega)), g_seg (by (clear zy zx c2 l1 eL k1 hz hb ha; omega)) (by (clear zy zx c2 l1 eL c1 k1 hb ha; omega)), Nat.add_zero, Nat.add_zero]
    have e := k3 k (Nat.le_refl _) (by (clear zy zx c2 l1 eL k1 hz hb ha; omega))
    unfold bey at e
    rw [if_neg Bool.false_ne_true] at e
    simpa using e
  have hl : ∀ y ∈ ((arrOf st).extract (sa + na) (sa + na + l)).toList, R y (g ((arrOf st).extract (sa + k) (sa + na)) (((arrOf st).extract (sa + k) (sa + na)).size - 1)) = true := fun y hy => by
    rw [seg_ext] at hy
    obtain ⟨j, j1, j2, j3, rfl⟩ := seg_mem hy
    rw [zx, g_seg (by (clear j3 j2 j1 zy zx c2 l1 eL k1 hz hb ha; omega)) (by (clear j3 j2 j1 zy zx c2 l1 eL c1 k1 hb ha; omega)), show sa + k + (na - k - 1) = sa + na - 1 by (clear j3 j2 j1 zy zx c2 l1 eL k1 hz hb ha; omega)]
    have e := l2 (j - (sa + na)) (by (clear j2 j1 zy zx l1 eL c1 k1 hz hb ha; omega))
    unfold bey at e
    rw [if_pos rfl, show sa + na + (j - (sa + na)) = j by (clear j3 j2 zy zx c2 l1 eL c1 k1 hz hb ha; omega)] at e
    exact e
  have done : ∀ res q, Fin R ((arrOf st).extract (sa + k) (sa + na)) ((arrOf st).extract (sa + na) (sa + na + l)) res → Q true (setPA st P (wr (arrOf st) (sa + k) res.toList) q) := by
    intro res q ⟨f1, f2⟩
    rw [seg_ext, seg_ext, seg_split (by (clear zy zx c2 l1 eL c1 hz hb ha; omega)) (by (clear zy zx c2 l1 eL c1 k1 hz hb ha; omega))] at f1
    have zr : res.toList.length = na - k + l := by rw [f1.length_eq, seg_len (by (clear zy zx c2 eL c1 k1 hb ha; omega))]; (clear zy zx c2 l1 eL c1 hz hb ha; omega)
    have gw : ∀ t, g (wr (arrOf st) (sa + k) res.toList) t = if sa + k ≤ t ∧ t < sa + na + l then (res.toList[t - (sa + k)]?).getD dk else g (arrOf st) t := fun t => by
      unfold g
      rw [wr_get (by (clear zy zx c2 eL c1 hb ha; omega)), zr, show sa + k + (na - k + l) = sa + na + l by (clear zr zy zx c2 l1 eL c1 hz hb ha; omega)]
      split <;> rfl
    have mid : ∀ t, sa + k ≤ t → t < sa + na + l → ∃ u, sa + k ≤ u ∧ u < sa + na + l ∧ g (wr (arrOf st) (sa + k) res.toList) t = g (arrOf st) u := fun t t1 t2 => by
      rw [gw, if_pos ⟨t1, t2⟩, List.getElem?_eq_getElem (by (clear t1 zy zx c2 l1 eL k1 hz hb ha; omega))]
      have hm : res.toList[t - (sa + k)]'(by (clear t1 zy zx c2 l1 eL k1 hz hb ha; omega)) ∈ seg (arrOf st) (sa + k) (sa + na + l) := f1.mem_iff.mp (List.getElem_mem _)
      obtain ⟨u, u1, _, u3, e⟩ := seg_mem hm
      exact ⟨u, u1, u3, e⟩
    have PM : ∀ t u, sa ≤ t → t < sa + k → sa + k ≤ u → u < sa + na + nb → le R (g (arrOf st) t) (g (arrOf st) u) := fun t u t1 t2 u1 u2 => by
      by_cases z : u < sa + na
      · exact s1 t u t1 (by (clear z u2 t1 zr zy zx c2 l1 eL c1 k1 hz hb ha; omega)) z
      · exact O.trans (lowP t t1 t2) (s2 (sa + na) u (Nat.le_refl _) (by (clear u2 u1 t2 t1 zr zy zx c2 l1 eL c1 k1 hz hb ha; omega)) u2)
    have MZ : ∀ t u, sa + k ≤ t → t < sa + na + l → sa + na + l ≤ u → u < sa + na + nb → le R (g (arrOf st) t) (g (arrOf st) u) := fun t u t1 t2 u1 u2 => by
      by_cases z : t < sa + na
      · exact O.trans (s1 t (sa + na - 1) (by (clear z u2 u1 t2 zr zy zx c2 l1 eL c1 k1 hz hb ha; omega)) (by (clear u2 u1 t2 t1 zr zy zx c2 l1 eL c1 k1 hz hb ha; omega)) (by (clear z u2 u1 t2 t1 zr zy zx c2 l1 eL c1 k1 hz hb; omega))) (highZ u u1 u2)
      · exact s2 t u (by (clear u2 u1 t2 t1 zr zy zx c2 l1 eL c1 k1 hz hb ha; omega)) (by (clear z u2 t1 zr zy zx c2 l1 eL c1 k1 hz hb ha; omega)) u2
    refine h _ q ⟨?_, fun t ht => ?_⟩ fun i j i1 i2 i3 => ?_
    · rw [Array.perm_iff_toList_perm, wr_list (by (clear zy zx c2 eL c1 hb ha; omega)), zr]
      have e : (arrOf st).toList = (arrOf st).toList.take (sa + k) ++ (seg (arrOf st) (sa + k) (sa + na + l) ++ (arrOf st).toList.drop (sa + k + (na - k + l))) := by
        have e1 : (arrOf st).toList.drop (sa + k + (na - k + l)) = ((arrOf st).toList.drop (sa + k)).drop (na - k + l) := by rw [List.drop_drop]
        have e2 : seg (arrOf st) (sa + k) (sa + na + l) = ((arrOf st).toList.drop (sa + k)).take (na - k + l) := by unfold seg; congr 1; (clear zr zy zx c2 l1 eL c1 hz hb ha; omega)
        rw [e1, e2, List.take_append_drop, List.take_append_drop]
      refine List.Perm.trans ?_ (List.Perm.of_eq e.symm)
      exact List.Perm.append_left _ (List.Perm.append_right _ f1)
    · rw [wr_get (by (clear ht zy zx c2 eL c1 hb ha; omega)), if_neg (by (clear zy zx c2 eL c1 hz hb ha; omega))]
    · by_cases hi : i < sa + k
      · have ei : g (wr (arrOf st) (sa + k) res.toList) i = g (arrOf st) i := by rw [gw, if_neg (by (clear i3 i2 i1 zr zy zx c2 l1 eL c1 k1 hz hb ha; omega))]
        rw [ei]
        by_cases hj : sa + k ≤ j ∧ j < sa + na + l
        · obtain ⟨u, u1, u2, e⟩ := mid j hj.1 hj.2
          rw [e]; exact PM i u i1 hi u1 (by (clear u1 hj hi i3 i2 i1 zr zy zx c2 eL c1 k1 hz hb ha; omega))
        · rw [gw, if_neg hj]
          by_cases z : j < sa + k
          · exact s1 i j i1 i2 (by (clear hj hi i3 i2 i1 zr zy zx c2 l1 eL c1 hz hb ha; omega))
          · exact PM i j i1 hi (by (clear hj hi i3 i2 i1 zr zy zx c2 l1 eL c1 k1 hz hb ha; omega)) i3
      · by_cases hi2 : i < sa + na + l
        · by_cases hj : j < sa + na + l
          · by_cases e : i = j
            · subst e; exact O.refl _
            · rw [gw, gw, if_pos ⟨by (clear e hj hi2 i3 i2 i1 zr zy zx c2 l1 eL c1 k1 hz hb ha; omega), hi2⟩, if_pos ⟨by (clear e hj hi2 i3 i1 zr zy zx c2 l1 eL c1 k1 hz hb ha; omega), hj⟩]
              rw [List.getElem?_eq_getElem (by (clear e hj hi i3 i2 i1 zy zx c2 l1 eL k1 hz hb ha; omega)), List.getElem?_eq_getElem (by (clear e hi2 hi i3 i2 i1 zy zx c2 l1 eL k1 hz hb ha; omega))]
              exact List.pairwise_iff_getElem.mp f2 _ _ _ _ (by (clear hj hi2 i3 i1 zr zy zx c2 l1 eL c1 k1 hz hb ha; omega))
          · obtain ⟨u, u1, u2, e⟩ := mid i (by (clear hj hi2 i3 i2 i1 zr zy zx c2 l1 eL c1 k1 hz hb ha; omega)) hi2
            have ej : g (wr (arrOf st) (sa + k) res.toList) j = g (arrOf st) j := by rw [gw, if_neg (by (clear u2 u1 hi2 hi i3 i2 i1 zr zy zx c2 l1 eL c1 k1 hz hb ha; omega))]
            rw [e, ej]
            exact MZ u j u1 u2 (by (clear u2 u1 hi2 hi i3 i2 i1 zr zy zx c2 l1 eL c1 k1 hz hb ha; omega)) i3
        · rw [gw, gw, if_neg (by (clear hi i3 i2 i1 zr zy zx c2 l1 eL c1 k1 hz hb ha; omega)), if_neg (by (clear hi i3 i1 zr zy zx c2 l1 eL c1 k1 hz hb ha; omega))]
          exact s2 i j (by (clear hi i3 i2 i1 zr zy zx c2 l1 eL c1 k1 hz hb ha; omega)) i2 i3
  by_cases c3 : na - k ≤ l
  · rw [if_pos c3]
    refine wpS_bind (wpS_low O (st := setPA st P (arrOf st) (gallopOf st)) (a := (arrOf st).extract (sa + k) (sa + na)) (b := (arrOf st).extract (sa + na) (sa + na + l)) hk ax ay (by (clear c3 zy c2 l1 eL k1 hz hb ha; omega)) (by (clear c3 zx l1 eL c1 k1 hz hb ha; omega)) sx sy hf hl fun res q hR => ?_)
    refine wpS_bind (wpS_modify ?_)
    refine wpS_bind (wpS_get ?_)
    have hd := done res q hR
    show wpS M A E s (pure (failedOf st).isNone) Q _
    rw [hF]
    exact wpS_pure hd
  · rw [if_neg c3]
    refine wpS_bind (wpS_high O (st := setPA st P (arrOf st) (gallopOf st)) (a := (arrOf st).extract (sa + k) (sa + na)) (b := (arrOf st).extract (sa + na) (sa + na + l)) hk ax ay (by (clear c3 zy c2 l1 eL k1 hz hb ha; omega)) (by (clear c3 zx l1 eL c1 k1 hz hb ha; omega)) sx sy hf hl fun res q hR => ?_)
    refine wpS_bind (wpS_modify ?_)
    refine wpS_bind (wpS_get ?_)
    have hd := done res q hR
    show wpS M A E s (pure (failedOf st).isNone) Q _
    rw [hF]
    exact wpS_pure hd
end
end Tim

end
section
set_option autoImplicit false
set_option autoImplicit false
set_option linter.all false
namespace Tim
open PySem PyProof.Rows
section
variable {M : Model} {A : Around} {E : Value → Shared → Prop} {s : Shared} {kd : SortKind} {Ok : Keyed → Prop} {R : Keyed → Keyed → Bool}
noncomputable def Cont (R : Keyed → Keyed → Bool) (a : Array Keyed) : Nat → List (Nat × Nat × Nat) → Nat → Prop
  | st, [], lo => st = lo
  | st, (x, n, _) :: r, lo => x = st ∧ 1 ≤ n ∧ Srt R a x (x + n) ∧ Cont R a (st + n) r lo
theorem Cont.le {a : Array Keyed} : ∀ {l : List (Nat × Nat × Nat)} {st lo : Nat}, Cont R a st l lo → st + l.length ≤ lo
  | [], st, lo, h => by have h' : st = lo := h; simp; omega
  | (x, n, p) :: r, st, lo, h => by
    obtain ⟨_, h2, _, h4⟩ := h
    have := Cont.le h4
    simp only [List.length_cons]; omega
theorem Cont.stir {a b : Array Keyed} {lo' hi' : Nat} (hS : Stir a b lo' hi') : ∀ {l : List (Nat × Nat × Nat)} {st lo : Nat}, Cont R a st l lo → (lo ≤ lo' ∨ hi' ≤ st) → Cont R b st l lo
  | [], _, _, h, _ => h
  | (x, n, p) :: r, st, lo, h, hd => by
    obtain ⟨h1, h2, h3, h4⟩ := h
    have hl := Cont.le h4
    refine ⟨h1, h2, hS.srt h3 (by omega), Cont.stir hS h4 (by omega)⟩
theorem Cont.app {a : Array Keyed} : ∀ {l r : List (Nat × Nat × Nat)} {st lo : Nat}, Cont R a st (l ++ r) lo ↔ ∃ m, Cont R a st l m ∧ Cont R a m r lo
  | [], r, st, lo => ⟨fun h => ⟨st, rfl, h⟩, fun ⟨m, h1, h2⟩ => by have e : st = m := h1; subst e; exact h2⟩
  | (x, n, p) :: l, r, st, lo => by
    constructor
    · rintro ⟨h1, h2, h3, h4⟩
      obtain ⟨m, m1, m2⟩ := Cont.app.mp h4
      exact ⟨m, ⟨h1, h2, h3, m1⟩, m2⟩
    · rintro ⟨m, ⟨h1, h2, h3, m1⟩, m2⟩
      exact ⟨h1, h2, h3, Cont.app.mpr ⟨m, m1, m2⟩⟩
theorem cut2 {α : Type} {l : List α} {i : Nat} (h : i + 1 < l.length) : ∃ pre x y post, l = pre ++ x :: y :: post ∧ pre.length = i := by
  refine ⟨l.take i, l[i], l[i + 1], l.drop (i + 2), ?_, by simp; omega⟩
  rw [← List.drop_eq_getElem_cons h, ← List.drop_eq_getElem_cons (by omega)]
  exact (List.take_append_drop i l).symm
theorem set_erase (pre post : List (Nat × Nat × Nat)) (x y v : Nat × Nat × Nat) (P : Array (Nat × Nat × Nat)) (h : P.toList = pre ++ x :: y :: post) :
    ((P.setIfInBounds pre.length v).eraseIdxIfInBounds (pre.length + 1)).toList = pre ++ v :: post := by
  have e1 : (P.setIfInBounds pre.length v).toList = pre ++ v :: y :: post := by
    rw [Array.toList_setIfInBounds, h, List.set_append_right _ _ (Nat.le_refl _), Nat.sub_self]
    rfl
  have e2 : pre.length + 1 < (P.setIfInBounds pre.length v).size := by
    have := congrArg List.length e1
    simp at this ⊢
    omega
  unfold Array.eraseIdxIfInBounds
  rw [dif_pos e2, Array.toList_eraseIdx, e1, List.eraseIdx_append_of_length_le (Nat.le_succ _)]
  simp
structure SI (M : Model) (kd : SortKind) (Ok : Keyed → Prop) (R : Keyed → Keyed → Bool) (a₀ : Array Keyed) (lo : Nat) (st : SortSt) : Prop where
  perm : (arrOf st).Perm a₀
  kind : kindOf st = kd
  fl : failedOf st = none
  runs : Cont R (arrOf st) 0 (pendingOf st).toList lo
theorem SI.size {a₀ : Array Keyed} {lo : Nat} {st : SortSt} (h : SI M kd Ok R a₀ lo st) : (arrOf st).size = a₀.size := h.perm.size_eq
theorem wpS_mergeSI (O : Ord M A E s kd Ok R) {a₀ : Array Keyed} (h0 : All Ok a₀) {lo i : Nat} {st : SortSt} {Q : Bool → SortSt → Prop} (hI : SI M kd Ok R a₀ lo st) (hi : i + 1 < (pendingOf st).size) (hlo : lo ≤ a₀.size)
    (h : ∀ st', SI M kd Ok R a₀ lo st' → (pendingOf st').size + 1 = (pendingOf st).size → Stir (arrOf st) (arrOf st') 0 lo → Q true st') : wpS M A E s (mergeAt' i) Q st := by
  obtain ⟨pre, ⟨sa, na, p⟩, ⟨sb, nb, q⟩, post, e, hl⟩ := cut2 (l := (pendingOf st).toList) (i := i) (by simpa using hi)
  have hR := hI.runs
  rw [e] at hR
  obtain ⟨m, hp, e1, hn1, s1, e2, hn2, s2, hr⟩ := Cont.app.mp hR
  subst e1 e2
  have hle := Cont.le hr
  have g1 : (pendingOf st)[i]? = some (sa, na, p) := by rw [← Array.getElem?_toList, e, List.getElem?_append_right (by omega), hl, Nat.sub_self]; rfl
  have g2 : (pendingOf st)[i + 1]? = some (sa + na, nb, q) := by rw [← Array.getElem?_toList, e, List.getElem?_append_right (by omega), hl, Nat.add_sub_cancel_left]; rfl
  have hz : sa + na + nb ≤ (arrOf st).size := by rw [hI.size]; omega
  refine wpS_merge O hI.kind (h0.perm hI.perm) hI.fl g1 g2 hn1 hn2 hz s1 s2 fun a' qq hS hs => ?_
  have e3 := set_erase pre post (sa, na, p) (sa + na, nb, q) (sa, na + nb, p) (pendingOf st) e
  rw [hl] at e3
  refine h _ ⟨hS.perm.trans hI.perm, hI.kind, hI.fl, ?_⟩ ?_ (hS.mono (Nat.zero_le _) (by omega))
  · show Cont R a' 0 (((pendingOf st).setIfInBounds i (sa, na + nb, p)).eraseIdxIfInBounds (i + 1)).toList lo
    rw [e3]
    refine Cont.app.mpr ⟨sa, hp.stir hS (.inl (Nat.le_refl _)), rfl, by omega, ?_, ?_⟩
    · rw [← Nat.add_assoc]; exact hs
    · rw [← Nat.add_assoc]; exact hr.stir hS (.inr (Nat.le_refl _))
  · have l1 := congrArg List.length e3
    have l2 := congrArg List.length e
    simp only [List.length_append, List.length_cons, Array.length_toList] at l1 l2
    show (((pendingOf st).setIfInBounds i (sa, na + nb, p)).eraseIdxIfInBounds (i + 1)).size + 1 = _
    omega
theorem cont_modify {a : Array Keyed} : ∀ {l : List (Nat × Nat × Nat)} {i st lo q : Nat}, Cont R a st l lo → Cont R a st (l.modify i fun x => (x.1, x.2.1, q)) lo
  | [], i, st, lo, q, h => by cases i <;> exact h
  | (x, n, p) :: r, 0, st, lo, q, h => h
  | (x, n, p) :: r, i + 1, st, lo, q, h => ⟨h.1, h.2.1, h.2.2.1, cont_modify h.2.2.2⟩
theorem wpS_sortAll (O : Ord M A E s kd Ok R) {a₀ : Array Keyed} (h0 : All Ok a₀) {st : SortSt} {Q : Unit → SortSt → Prop} (hp : (arrOf st).Perm a₀) (hk : kindOf st = kd) (hF : failedOf st = none) (hP : pendingOf st = #[]) (h2 : 2 ≤ a₀.size)
    (h : ∀ st', (arrOf st').Perm a₀ → failedOf st' = none → Srt R (arrOf st') 0 a₀.size → Q () st') : wpS M A E s sortRuns' Q st := by
  rw [sortRuns'_eq]
  refine wpS_bind (wpS_get ?_)
  have hz : (arrOf st).size = a₀.size := hp.size_eq
  try dsimp only
  simp only [hz]
  refine wpS_bind (wpS_mono (wpS_forRange
    (I := fun x c st' => ∃ lo, c = (none, lo) ∧ min x a₀.size ≤ lo ∧ lo ≤ a₀.size ∧ SI M kd Ok R a₀ lo st')
    (Q := fun c st' => c = (none, a₀.size) ∧ SI M kd Ok R a₀ a₀.size st') ?step ?fin ⟨0, rfl, by omega, Nat.zero_le _, hp, hk, hF, by rw [hP]; rfl⟩) ?post)
  case fin =>
    rintro c st' ⟨lo, rfl, l1, l2, hI⟩
    have e : lo = a₀.size := by omega
    subst e
    exact ⟨rfl, hI⟩
  case step =>
    rintro x c st' _ hx ⟨lo, rfl, l1, l2, hI⟩
    try dsimp only
    by_cases hge : lo ≥ a₀.size
    · rw [if_pos hge]
      have e : lo = a₀.size := by omega
      subst e
      exact wpS_pure ⟨rfl, hI⟩
    rw [if_neg hge]
    have hz' := hI.size
    refine wpS_bind (wpS_run O hI.kind (h0.perm hI.perm) (by omega) (by omega) fun n a1 hS1 n1 n2 hs1 => ?_)
    try dsimp only
    have push : ∀ {z : SortSt} {n' : Nat}, 1 ≤ n' → SI M kd Ok R a₀ lo z → Srt R (arrOf z) lo (lo + n') → SI M kd Ok R a₀ (lo + n') (setPending z ((pendingOf z).push (lo, n', 0))) := fun {z n'} m1 hz hs => by
      refine ⟨hz.perm, hz.kind, hz.fl, ?_⟩
      show Cont R (arrOf z) 0 ((pendingOf z).push (lo, n', 0)).toList (lo + n')
      rw [Array.toList_push]
      exact Cont.app.mpr ⟨lo, hz.runs, rfl, m1, hs, rfl⟩
    have start : ∀ {a2 : Array Keyed}, Stir (arrOf st') a2 lo a₀.size → SI M kd Ok R a₀ lo (setArr st' a2) := fun {a2} hS2 => ⟨hS2.perm.trans hI.perm, hI.kind, hI.fl, hI.runs.stir hS2 (.inl (Nat.le_refl _))⟩
    rw [show lo + (a₀.size - lo) = a₀.size by omega] at hS1
    generalize hmr : minRun' a₀.size a₀.size 0 = mr
    by_cases hlt : n < mr
    all_goals
      first
        | rw [if_pos hlt]
          refine wpS_bind (wpS_lift (wpAny_rule ⟨rfl, ?_⟩))
          refine wpS_bind (wpS_bin O (st := setArr st' a1) hI.kind (h0.perm (hS1.perm.trans hI.perm)) (show n ≤ min (a₀.size - lo) mr by omega) (by show lo + min (a₀.size - lo) mr ≤ a1.size; rw [hS1.size]; omega) hs1 fun a2 hS2' hs2 => ?_)
          have hS2 : Stir (arrOf st') a2 lo a₀.size := hS1.trans (hS2'.mono (Nat.le_refl _) (by omega))
          simp only [Bool.not_true, Bool.false_eq_true, if_false]
          have m1 : 1 ≤ min (a₀.size - lo) mr := by omega
          have m2 : lo + min (a₀.size - lo) mr ≤ a₀.size := by omega
          generalize min (a₀.size - lo) mr = n' at hs2 m1 m2 ⊢
        | rw [if_neg hlt]
          obtain ⟨a2, hS2, n', en, hs2, m1, m2⟩ : ∃ a2, Stir (arrOf st') a2 lo a₀.size ∧ ∃ n', n' = n ∧ Srt R a1 lo (lo + n') ∧ 1 ≤ n' ∧ lo + n' ≤ a₀.size := ⟨a1, hS1, n, rfl, hs1, n1, by omega⟩
          rw [← en]
          clear hS2 a2
          have hS2 := hS1
          revert hs1 hS1 hs2 hS2
          generalize a1 = a2
          intro _ _ hs2 hS2
      have I2 := start hS2
      refine wpS_bind (wpS_get ?_)
      try dsimp only
      cases hbk : (pendingOf (setArr st' a2)).back? with
      | none =>
        try dsimp only
        exact wpS_bind (wpS_modify (wpS_pure ⟨lo + n', rfl, by omega, m2, push m1 I2 hs2⟩))
      | some t =>
        obtain ⟨b1, b2, b3⟩ := t
        try dsimp only
        refine wpS_bind (wpS_mono (wpS_forRange (I := fun _ c z => c = (none, ()) ∧ SI M kd Ok R a₀ lo z ∧ Srt R (arrOf z) lo (lo + n')) (Q := fun c z => c = (none, ()) ∧ SI M kd Ok R a₀ lo z ∧ Srt R (arrOf z) lo (lo + n')) ?_ (fun _ _ q => q) ⟨rfl, I2, hs2⟩) ?_)
        · rintro y c z _ _ ⟨rfl, hz, hs⟩
          refine wpS_bind (wpS_get ?_)
          try dsimp only
          split
          · rename_i older hold
            split
            · exact wpS_pure ⟨rfl, hz, hs⟩
            · have hp2 : (pendingOf z).size > 1 := by
                refine Nat.lt_of_not_le fun q => ?_
                rw [if_neg (by omega)] at hold
                cases hold
              refine wpS_bind (wpS_mergeSI O h0 hz (by omega) l2 fun z' hz' _ hS' => ?_)
              simp only [Bool.not_true, Bool.false_eq_true, if_false]
              exact wpS_pure ⟨rfl, hz', hS'.srt hs (.inr (Nat.le_refl _))⟩
          · exact wpS_pure ⟨rfl, hz, hs⟩
        · rintro c z ⟨rfl, hz, hs⟩
          try dsimp only
          refine wpS_bind (wpS_modify ?_)
          refine wpS_bind (wpS_modify (wpS_pure ⟨lo + n', rfl, by omega, m2, ?_⟩))
          refine push (z := setPending z ((pendingOf z).modify ((pendingOf z).size - 1) _)) m1 ⟨hz.perm, hz.kind, hz.fl, ?_⟩ hs
          show Cont R (arrOf z) 0 ((pendingOf z).modify _ _).toList lo
          rw [Array.toList_modify]
          exact cont_modify hz.runs
  case post =>
    rintro c st' ⟨rfl, hI⟩
    try dsimp only
    have hlen := Cont.le hI.runs
    refine wpS_bind (wpS_mono (wpS_forRange (I := fun x c st'' => c = (none, ()) ∧ SI M kd Ok R a₀ a₀.size st'' ∧ ((pendingOf st'').size ≤ 1 ∨ (pendingOf st'').size + x ≤ a₀.size))
      (Q := fun c st'' => c = (none, ()) ∧ SI M kd Ok R a₀ a₀.size st'' ∧ (pendingOf st'').size ≤ 1) ?_ ?_ ⟨rfl, hI, .inr (by simp at hlen ⊢; omega)⟩) ?_)
    · rintro y c z _ _ ⟨rfl, hz, hc⟩
      refine wpS_bind (wpS_get ?_)
      try dsimp only
      by_cases h1 : (pendingOf z).size ≤ 1
      · rw [if_pos h1]
        exact wpS_pure ⟨rfl, hz, h1⟩
      · rw [if_neg h1]
        split
        all_goals
          refine wpS_bind (wpS_mergeSI O h0 hz (by split <;> omega) (Nat.le_refl _) fun z' hz' hn _ => ?_)
          simp only [Bool.not_true, Bool.false_eq_true, if_false]
          exact wpS_pure ⟨rfl, hz', .inr (by omega)⟩
    · rintro c z ⟨rfl, hz, hc⟩
      exact ⟨rfl, hz, by omega⟩
    · rintro c z ⟨rfl, hz, hc⟩
      refine wpS_pure (h z hz.perm hz.fl ?_)
      have hr := hz.runs
      have hl2 : (pendingOf z).toList.length ≤ 1 := by simpa using hc
      revert hr hl2
      generalize (pendingOf z).toList = l
      intro hr hl2
      match l, hr, hl2 with
      | [], hr, _ =>
        have e : 0 = a₀.size := hr
        omega
      | [(x, n, p)], ⟨e1, _, hs, e2⟩, _ =>
        have e3 : 0 + n = a₀.size := e2
        subst e1
        rw [← e3]; exact hs
      | _ :: _ :: _, _, hl2 => simp at hl2
end
end Tim

end
namespace L2
open PySem PySem.Spec PyProof.Rows

section
variable {prog : Program} {w : World} {A : Around} {R : Result → Shared → Prop} {s : Shared}
theorem compLoop_any {elt target iter : Expr} {ifs : List Expr} {scope : Scope} {pos : Pos} {it acc : Value} {env : Env} (I : Nat → Shared → Prop)
    (turn : ∀ n s, I n s → wpAny (model prog w) A (pyNext it) (fun r s₁ => match r with
      | none => R (.ok .next) s₁
      | some v => wpAny (model prog w) A (letOwnedTupleGo target it v) (fun _ s₁' => wpAny (model prog w) A (assign target env v) (fun _ s₂ =>
          wpAny (model prog w) A (forIn ifs true fun c r => if r = true then do let ok ← isTrue c env (eval c env); pure (ForInStep.yield ok) else pure (ForInStep.yield r)) (fun ok s₃ =>
            if ok = true then wpAny (model prog w) A (eval elt env) (fun x s₄ =>
              wpAny (model prog w) A (call (.builtin "list.append") [acc, x]) (fun _ s₅ => ∃ m, m < n ∧ I m s₅) (fun _ _ => False) s₄) (fun _ _ => False) s₃
            else ∃ m, m < n ∧ I m s₃) (fun _ _ => False) s₂) (fun _ _ => False) s₁') (fun _ _ => False) s₁) (fun _ _ => False) s)
    (n : Nat) (h : I n s) : codeAny (model prog w) A (.compLoop (.ListComp elt [⟨target, iter, ifs, 0⟩] scope pos) 0 it acc env) R s := by
  refine codeAny_loop rfl I (fun n s hI => ?_) n h
  show wpAny _ A ((compTurn (.ListComp elt [⟨target, iter, ifs, 0⟩] scope pos) 0 it acc env).onRaise (fun x => do noteFrame x env; theTreesLotGoes x)) _ _ s
  refine wpAny_noted ?_
  rw [compTurn_list]
  refine wpAny_bind (wpAny_standAt (wpAny_bind (wpAny_mono (turn n s hI) (fun r s₁ h₁ => ?_) fun _ _ h' => h'.elim)))
  cases r with
  | none => exact wpAny_pure h₁
  | some v =>
    refine wpAny_bind (wpAny_mono h₁ (fun _ s₁' h₁' => ?_) fun _ _ h' => h'.elim)
    refine wpAny_bind (wpAny_mono h₁' (fun _ s₂ h₂ => wpAny_bind (wpAny_mono h₂ (fun ok s₃ h₃ => ?_) fun _ _ h' => h'.elim)) fun _ _ h' => h'.elim)
    cases ok with
    | false => exact wpAny_pure ⟨rfl, h₃⟩
    | true =>
      exact wpAny_bind (wpAny_bind (wpAny_mono h₃ (fun x s₄ h₄ => wpAny_bind (wpAny_mono h₄ (fun _ s₅ h₅ => wpAny_pure (wpAny_pure ⟨rfl, h₅⟩)) fun _ _ h' => h'.elim)) fun _ _ h' => h'.elim))
end

noncomputable def clos (cells : List (Str × Addr)) : List (Str × NameKind) → List (Str × Addr) → List (Str × Addr)
  | [], acc => acc
  | (n, k) :: r, acc => clos cells r (if (k == NameKind.free) = true then (n, (cells.lookup n).getD 0) :: acc else acc)
theorem clos_some {cells : List (Str × Addr)} {x : Str} {c : Addr} : ∀ (l : List (Str × NameKind)) (acc : List (Str × Addr)), (clos cells l acc).lookup x = some c → acc.lookup x = some c ∨ ((x, NameKind.free) ∈ l ∧ c = (cells.lookup x).getD 0)
  | [], _, h => .inl h
  | (n, k) :: r, acc, h => by
    unfold clos at h
    rcases clos_some r _ h with z | ⟨z1, z2⟩
    · by_cases e : (k == NameKind.free) = true
      · rw [if_pos e] at z
        by_cases q : x = n
        · subst q
          have z' : some ((cells.lookup x).getD 0) = some c := by simpa [List.lookup_cons] using z
          have ek : k = .free := by simpa using e
          subst ek
          exact .inr ⟨List.mem_cons_self, (Option.some.inj z').symm⟩
        · have q' : (x == n) = false := by simpa using q
          rw [List.lookup_cons, q'] at z
          exact .inl z
      · rw [if_neg e] at z
        exact .inl z
    · exact .inr ⟨List.mem_cons_of_mem _ z1, z2⟩
theorem clos_has {cells : List (Str × Addr)} {x : Str} : ∀ (l : List (Str × NameKind)) (acc : List (Str × Addr)), ((x, NameKind.free) ∈ l ∨ (acc.lookup x).isSome = true) → ((clos cells l acc).lookup x).isSome = true
  | [], _, h => by
    rcases h with h | h
    · exact absurd h (by simp)
    · exact h
  | (n, k) :: r, acc, h => by
    unfold clos
    refine clos_has r _ ?_
    rcases h with h | h
    · rcases List.mem_cons.mp h with e | h
      · cases e
        right
        simp [List.lookup_cons]
      · exact .inl h
    · right
      by_cases e : (k == NameKind.free) = true
      · rw [if_pos e, List.lookup_cons]
        cases (x == n) <;> simp [h]
      · rw [if_neg e]
        exact h
theorem closure_eq {scope : Scope} {env : Env} (h : ∀ y ∈ scope.names, y.2 = .free → ∃ c, env.cells.lookup y.1 = some c) : closureFor scope env = pure (clos env.cells scope.names []) := by
  have key : ∀ (l : List (Str × NameKind)) (acc : List (Str × Addr)), (∀ y ∈ l, y.2 = .free → ∃ c, env.cells.lookup y.1 = some c) →
      (forIn l acc fun x r => match x with
        | (name, kind) => if (kind == NameKind.free) = true then do
            let a ← cellOf env name
            pure (ForInStep.yield ((name, a) :: r)) else pure (ForInStep.yield r)) = (pure (clos env.cells l acc) : Sem _) := by
    intro l
    induction l with
    | nil => intro acc _; rfl
    | cons y r ih =>
      intro acc hy
      obtain ⟨n, k⟩ := y
      rw [List.forIn_cons]
      dsimp only
      unfold clos
      by_cases e : (k == NameKind.free) = true
      · have ek : k = .free := by simpa using e
        subst ek
        obtain ⟨c, hc⟩ := hy (n, .free) List.mem_cons_self rfl
        rw [if_pos e, if_pos e]
        have hce : cellOf env n = pure c := by unfold cellOf; rw [hc]
        rw [hce, pure_bind, pure_bind]
        dsimp only
        rw [hc]
        exact ih _ fun z hz => hy z (List.mem_cons_of_mem _ hz)
      · rw [if_neg e, if_neg e, pure_bind]
        exact ih _ fun z hz => hy z (List.mem_cons_of_mem _ hz)
  have k0 := key scope.names [] h
  unfold closureFor
  simp only [bind_pure]
  exact k0
theorem relabel_mem {env : Env} {x : Str} {k : NameKind} : ∀ (names : List (Str × NameKind)),
    (names.map fun (n, k) => if (k == NameKind.free && env.scope.kind == .function && env.kindOf n == some .cell) then (n, NameKind.cell) else (n, k)).lookup x = some k →
    ∃ k', (x, k') ∈ names ∧ (k = k' ∨ (k' = .free ∧ k = .cell))
  | [], h => by simp at h
  | (n, j) :: r, h => by
    rw [List.map_cons] at h
    dsimp only at h
    by_cases c : (j == NameKind.free && env.scope.kind == .function && env.kindOf n == some .cell) = true
    · rw [if_pos c] at h
      have ej : j = .free := by
        simp only [Bool.and_eq_true] at c
        simpa using c.1.1
      subst ej
      rw [List.lookup_cons] at h
      by_cases q : x = n
      · subst q
        have h' : some NameKind.cell = some k := by simpa using h
        exact ⟨.free, List.mem_cons_self, .inr ⟨rfl, (Option.some.inj h').symm⟩⟩
      · have q' : (x == n) = false := by simpa using q
        rw [q'] at h
        obtain ⟨k', m, e⟩ := relabel_mem r h
        exact ⟨k', List.mem_cons_of_mem _ m, e⟩
    · rw [if_neg c] at h
      rw [List.lookup_cons] at h
      by_cases q : x = n
      · subst q
        have h' : some j = some k := by simpa using h
        exact ⟨j, List.mem_cons_self, .inl (Option.some.inj h').symm⟩
      · have q' : (x == n) = false := by simpa using q
        rw [q'] at h
        obtain ⟨k', m, e⟩ := relabel_mem r h
        exact ⟨k', List.mem_cons_of_mem _ m, e⟩
theorem relabel_free {env : Env} {x : Str} : ∀ (names : List (Str × NameKind)), names.lookup x = some .free →
    (names.map fun (n, k) => if (k == NameKind.free && env.scope.kind == .function && env.kindOf n == some .cell) then (n, NameKind.cell) else (n, k)).lookup x = some .free ∨
    (names.map fun (n, k) => if (k == NameKind.free && env.scope.kind == .function && env.kindOf n == some .cell) then (n, NameKind.cell) else (n, k)).lookup x = some .cell
  | [], h => by simp at h
  | (n, j) :: r, h => by
    rw [List.map_cons]
    dsimp only
    rw [List.lookup_cons] at h
    by_cases q : x = n
    · subst q
      have h' : some j = some NameKind.free := by simpa using h
      cases h'
      by_cases c : (NameKind.free == NameKind.free && env.scope.kind == .function && env.kindOf x == some .cell) = true
      · rw [if_pos c]
        right; simp [List.lookup_cons]
      · rw [if_neg c]
        left; simp [List.lookup_cons]
    · have q' : (x == n) = false := by simpa using q
      rw [q'] at h
      have ih := relabel_free (env := env) r h
      by_cases c : (j == NameKind.free && env.scope.kind == .function && env.kindOf n == some .cell) = true
      · rw [if_pos c]
        simpa [List.lookup_cons, q'] using ih
      · rw [if_neg c]
        simpa [List.lookup_cons, q'] using ih

noncomputable def inN (X : Cx) (own : List Str) (ix : List Nat) : List Str := own ++ ix.map fun j => (X.N[j]?).getD ("" : Str)
noncomputable def inS (own : List Str) (ix : List Nat) (σ : St) : St := own.map (fun _ => none) ++ ix.map fun j => (σ[j]?).getD none
noncomputable def Cx.inner (X : Cx) (scope : Scope) (own : List Str) (ix : List Nat) (C : Addr) (s : Shared) (H : Hp) (fp : List Addr) : Cx :=
  { X with N := inN X own ix, s₀ := s, H₀ := H, env := compEnvC scope (clos X.env.cells scope.names []) C X.env, outer := X.stack, ex := fp, fn := fun _ => false, pn := [], xe := fun _ _ => False }

structure Blk (X : Cx) (scope : Scope) (own : List Str) (ix : List Nat) : Prop where
  kind : scope.kind = .function
  nocell : ∀ y ∈ scope.names, y.2 ≠ .cell
  loc : ∀ y ∈ scope.names, y.2 = .local → scope.names.lookup y.1 = some .local
  free : ∀ y ∈ scope.names, y.2 = .free → X.env.scope.names.lookup y.1 = some .cell ∨ X.env.scope.names.lookup y.1 = some .free
  ixs : ∀ j ∈ ix, ∃ x, X.N[j]? = some x ∧ scope.names.lookup x = some .free

section
variable {X : Cx} {pins : List (Addr × Obj)} {σ : St} {H : Hp} {s : Shared} {scope : Scope} {own : List Str} {ix : List Nat} {fp : List Addr}
theorem Blk.cells (B : Blk X scope own ix) (ok : X.Ok) : ∀ y ∈ scope.names, y.2 = .free → ∃ c, X.env.cells.lookup y.1 = some c := fun y hy hf =>
  ok.has y.1 (by rcases B.free y hy hf with z | z; exact .inl z; exact .inr z)
theorem Blk.cl (B : Blk X scope own ix) (ok : X.Ok) {x : Str} {c : Addr} (h : (clos X.env.cells scope.names []).lookup x = some c) : X.env.cells.lookup x = some c := by
  rcases clos_some _ _ h with z | ⟨z1, z2⟩
  · simp at z
  · obtain ⟨c', e⟩ := B.cells ok _ z1 rfl
    rw [e] at z2
    have z3 : c = c' := z2
    rw [z3]; exact e
theorem Blk.start (B : Blk X scope own ix) (I : Inv X pins σ H s) (hf : ∀ b ∈ fp, FpOk X pins H b) (hfo : ∀ b ∈ fp, ∃ o, s.heap.get? b = some o) {h1 : Heap} {tk : Nat} {C D : Addr} {m : Str → Option Value}
    (hD : D = s.heap.objs.size) (hC : C = s.heap.objs.size + 1) (keep : ∀ b o, s.heap.get? b = some o → h1.get? b = some o)
    (hl : h1.get? D = some { cls := .type "list", data := .seq ([] : List Value).toArray }) (hn : h1.Ns C m) :
    Inv (X.inner scope own ix C s H fp) [] (inS own ix σ) (upd H D (.lst [])) { s with heap := h1, toks := tk } := by
  have hDn : H D = none := I.hok.fresh (by rw [hD]; exact Nat.le_refl _)
  have hCn : H C = none := I.hok.fresh (by rw [hC]; exact Nat.le_succ _)
  have hDC : C ≠ D := by rw [hC, hD]; exact Nat.succ_ne_self _
  have lt : ∀ {b : Addr} {o : Obj}, s.heap.get? b = some o → b ≠ D ∧ b ≠ C := fun e => by
    have := Heap.lt_size e
    exact ⟨by rw [hD]; exact Nat.ne_of_lt this, by rw [hC]; exact Nat.ne_of_lt (Nat.lt_succ_of_lt this)⟩
  have cl : ∀ {x c}, (X.inner scope own ix C s H fp).env.cells.lookup x = some c → X.env.cells.lookup x = some c := fun h => B.cl I.ok h
  refine ⟨⟨I.ok.mod, B.kind, I.ok.glob, I.ok.blt, ?_, fun x y c h1 h2 => I.ok.inj x y c (cl h1) (cl h2), fun x hx => ?_, fun x c hfn => ?_, I.ok.hd, I.ok.frames, .inl rfl, fun b hb => ?_, I.bs, Nat.le_trans I.ok.bsz I.sz, fun b o e hb => ?_, fun b hb => ?_, I.stack, I.stkFree⟩,
    rfl, I.bare, ⟨fun b o e _ _ _ => keep b o e, fun b o e _ _ _ => ⟨o.slots, keep b o e⟩, fun b o e n _ => ?_, fun b o e _ => ⟨o, keep b o e⟩, fun b xs e => ?_, fun b o u e => ?_, fun b ps e => ⟨#[], ?_⟩⟩, ⟨m, hn, fun i x v h1 h2 h3 => ?_⟩, fun x c h => ?_, ?_, fun x c h => ?_, fun p hp => absurd (show p ∈ ([] : List (Addr × Obj)) from hp) (by simp), ?_, ?_⟩
  · show s.heap.objs.size ≤ C
    rw [hC]; exact Nat.le_succ _
  · have hx' : (relabel scope X.env).names.lookup x = some .cell ∨ (relabel scope X.env).names.lookup x = some .free := hx
    have hm : (x, NameKind.free) ∈ scope.names := by
      rcases hx' with z | z
      · obtain ⟨k', m1, e⟩ := relabel_mem _ z
        rcases e with e | ⟨e, _⟩
        · subst e; exact absurd rfl (B.nocell _ m1)
        · subst e; exact m1
      · obtain ⟨k', m1, e⟩ := relabel_mem _ z
        rcases e with e | ⟨_, e⟩
        · subst e; exact m1
        · cases e
    exact Option.isSome_iff_exists.mp (clos_has scope.names [] (.inl hm))
  · exact absurd (show false = true from hfn) Bool.false_ne_true
  · obtain ⟨o, ho⟩ := hfo b hb
    exact ⟨(lt ho).2, fun x c h => (hf b hb).2.2.2.2.1 x c (cl h)⟩
  · have hb' : b ∈ fp := hb
    obtain ⟨f0, f1, f2, f3, f4, f5⟩ := hf b hb'
    rcases f3 with z | z
    · exact I.ok.noex b o e z
    · have := Heap.lt_size (I.ok.bs b o e).1
      exact absurd (Nat.lt_of_lt_of_le this z) (Nat.lt_irrefl _)
  · obtain ⟨f0, f1, f2, f3, f4, f5⟩ := hf b hb
    intro z
    rcases List.mem_cons.mp (I.stkSub b z) with z | z
    · exact f1 z
    · exact f2 z
  · rw [upd_ne (lt e).1]; exact n
  · rw [upd_ne (ne_of_none e hDn)]; exact e
  · rw [upd_ne (ne_of_none e hDn)]; exact e
  · have e' : H b = some (.tbl ps) := e
    rw [upd_ne (ne_of_none e' hDn), e']; simp
  · -- the names
    have hN : (inN X own ix)[i]? = some x := h1
    unfold inN at hN
    unfold inS at h2
    by_cases hi : i < own.length
    · rw [List.getElem?_append_left (by simpa using hi), List.getElem?_map] at h2
      cases e : own[i]? with
      | none => rw [e] at h2; cases h2
      | some y => rw [e] at h2; cases h2
    · rw [List.getElem?_append_right (by simpa using hi), List.length_map, List.getElem?_map] at h2
      rw [List.getElem?_append_right (by omega), List.getElem?_map] at hN
      cases e : ix[i - own.length]? with
      | none => rw [e] at h2; cases h2
      | some j =>
        rw [e] at h2 hN
        have h2' : (σ[j]?).getD none = some v := Option.some.inj h2
        have hN' : (X.N[j]?).getD ("" : Str) = x := Option.some.inj hN
        obtain ⟨y, hy, hfr⟩ := B.ixs j (List.mem_of_getElem? e)
        rw [hy] at hN'
        have hyx : y = x := hN'
        subst hyx
        have hσ : σ[j]? = some (some v) := by
          cases q : σ[j]? with
          | none => rw [q] at h2'; cases h2'
          | some z => rw [q] at h2'; exact congrArg some h2'
        obtain ⟨mo, _, hlo⟩ := I.loc
        have hmem : (y, NameKind.free) ∈ scope.names := PySem.mem_of_lookup hfr
        have hv : Vis X.env.scope y := by
          rcases B.free _ hmem rfl with z | z
          · exact .inr (.inl z)
          · exact .inr (.inr z)
        obtain ⟨u, ru, lk⟩ := hlo j y v hy hσ hv
        refine ⟨u, ru, .inr ?_⟩
        rcases lk with ⟨hk, _⟩ | ⟨hk, c, hc, hcell⟩
        · have hk' : X.env.scope.names.lookup y = some .local := hk
          rcases B.free _ hmem rfl with z | z <;> (rw [hk'] at z; cases z)
        · refine ⟨?_, c, ?_, hcell.keeps keep⟩
          · show (relabel scope X.env).names.lookup y = some .cell ∨ (relabel scope X.env).names.lookup y = some .free
            exact (relabel_free _ hfr).symm
          · show (clos X.env.cells scope.names []).lookup y = some c
            obtain ⟨c', e'⟩ := Option.isSome_iff_exists.mp (clos_has (cells := X.env.cells) scope.names [] (.inl hmem))
            have := B.cl I.ok e'
            rw [hc] at this; cases this
            exact e'
  · obtain ⟨v, q⟩ := I.cell x c (cl h)
    exact ⟨v, q.keeps keep⟩
  · show (upd H D (.lst [])) C = none
    rw [upd_ne hDC]; exact hCn
  · obtain ⟨v, o, ho, _⟩ := I.cell x c (cl h)
    rw [upd_ne (lt ho).1]
    exact I.freeC x c (cl h)
  · refine I.hok.laid keep (by rw [hD]; exact Nat.le_refl _) ?_
    exact ⟨Nat.zero_le _, [], _, .nil, hl⟩
  · show (inS own ix σ).length = (inN X own ix).length
    simp [inS, inN]
theorem Blk.back {σ' : St} {H' : Hp} {s' : Shared} {C : Addr} {h2 : Heap} (I : Inv X pins σ H s) (hf : ∀ b ∈ fp, FpOk X pins H b) (hC : s.heap.objs.size ≤ C)
    (J : Inv (X.inner scope own ix C s H fp) [] σ' H' s') (hs : Heap.SameBut C s'.heap h2) : Inv X pins σ H' { s' with heap := h2 } := by
  have u : Un (frs X.stack) fp H H' s.heap s'.heap := J.base
  have ne : ∀ {b : Addr} {o : Obj}, s.heap.get? b = some o → b ≠ C := fun e => Nat.ne_of_lt (Nat.lt_of_lt_of_le (Heap.lt_size e) hC)
  have kp : ∀ {b : Addr} {o : Obj}, b ≠ C → s'.heap.get? b = some o → h2.get? b = some o := fun hb e => (hs.2 _ hb).trans e
  have u2 : Un (frs X.stack) fp H H' s.heap h2 := ⟨fun b o e n h1 h2 => kp (ne e) (u.keep b o e n h1 h2), fun b o e n h1 h2 => by
      obtain ⟨sl, z⟩ := u.slot b o e n h1 h2
      exact ⟨sl, kp (ne e) z⟩, u.free, fun b o e h1 => by
      obtain ⟨o', z⟩ := u.there b o e h1
      exact ⟨o', kp (ne e) z⟩, u.tups, u.frzs, u.tbls⟩
  have hCn : H' C = none := J.free
  have hok : HOk X.prog X.w H' h2 := fun b ob e => by
    refine (J.hok b ob e).stay (fun c w' hc q => (hs.2 c ?_).trans q) (fun _ q => q) fun _ _ q => q
    rintro rfl
    rcases hc with z | hc
    · rw [← z] at e; rw [hCn] at e; cases e
    · rw [hCn] at hc; cases hc
  exact I.call' (s' := { s' with heap := h2 }) J.os u2 hok J.bare fun b hb => by
    obtain ⟨f0, f1, f2, f3, f4, f5⟩ := hf b hb
    exact ⟨f3, f1, f4, f5⟩
end
end L2

namespace L2
open PySem PySem.Spec PyProof.Rows

noncomputable def PIfs (X : Cx) (ifs : List Expr) (t : TT) : Prop :=
  ∀ (pins : List (Addr × Obj)) (s : Shared) (σ : St) (H : Hp) (Q : Bool → Hp → Prop), Inv X pins σ H s → t σ H Q →
    wpAny (model X.prog X.w) X.A (forIn ifs true fun c r => if r = true then do let ok ← isTrue c X.env (eval c X.env); pure (ForInStep.yield ok) else pure (ForInStep.yield r)) (TP X pins σ Q) X.xe s
noncomputable def tYes : TT := fun _ H Q => Q true H
theorem pifs_nil {X : Cx} : PIfs X [] tYes := fun _ _ _ H _ I h => wpAny_tests_nil ⟨H, I, h⟩
noncomputable def GOwn (n : Nat) (g : TG) : Prop := ∀ x σ H Q, g x σ H Q → g x σ H fun σ2 H2 => (σ2.length = σ.length ∧ ∀ i, n ≤ i → σ2[i]? = σ[i]?) ∧ Q σ2 H2
theorem gown_name {n i : Nat} (h : i < n) : GOwn n (gName i) := fun x σ H Q q => by
  refine ⟨⟨by simp, fun j hj => ?_⟩, q⟩
  rw [List.getElem?_set_ne (by omega)]
noncomputable def Comps (own : List Str) (ix : List Nat) (g : TG) (tc : TT) (te : TE) (σ : St) (J : It) (H1 : Hp) (D : Addr) (Q : Hp → Prop) : Prop :=
  ∃ W : Nat → Nat → Hp → Prop, (∃ m, W 0 m (upd H1 D (.lst []))) ∧ ∀ i m Hi, W i m Hi →
    (J.stop i Hi ∧ Q Hi) ∨ (J.go i Hi ∧ ∀ x H', J.yld i Hi x H' → g x (inS own ix σ) H' fun σ2 H2 => tc σ2 H2 fun b H3 =>
      if b = true then te σ2 H3 fun v H4 => ∃ ys, H4 D = some (.lst ys) ∧ ys.length < sizeLine ∧ ∃ m', m' < m ∧ W (i + 1) m' (upd H4 D (.lst (ys ++ [v]))) else ∃ m', m' < m ∧ W (i + 1) m' H3)
noncomputable def tComp (own : List Str) (ix : List Nat) (wi : TI) (g : TG) (tc : TT) (te : TE) : TE := fun σ H Q => wi σ H fun J H1 => ∀ D, H1 D = none → Comps own ix g tc te σ J H1 D fun H' => Q (.ref D) H'

section
variable {X : Cx} {pins : List (Addr × Obj)} {σ : St} {H : Hp} {s : Shared} {scope : Scope} {own : List Str} {ix : List Nat} {fp : List Addr}
theorem inS_weak {σ2 : St} (hl : σ2.length = (inS own ix σ).length) (h : ∀ i, own.length ≤ i → σ2[i]? = (inS own ix σ)[i]?) : ∀ (i : Nat) v, (inS own ix σ)[i]? = some (some v) → σ2[i]? = some (some v) := fun i v e => by
  by_cases hi : i < own.length
  · unfold inS at e
    rw [List.getElem?_append_left (by simpa using hi), List.getElem?_map] at e
    cases q : own[i]? with
    | none => rw [q] at e; cases e
    | some y => rw [q] at e; cases e
  · rw [h i (by omega)]; exact e
theorem comp_block {elt tg iter : Expr} {ifs : List Expr} {pos : Pos} {J : It} {it : Addr} {tn : Nat → Heap → Prop} {g : TG} {tc : TT} {te : TE} {E : Value → Shared → Prop} {Q : Addr → Hp → Prop} {RR : Value → Addr → Result → Shared → Prop}
    (B : Blk X scope own ix) (hc : X.calm = true) (ho : GOwn own.length g)
    (hg : ∀ C s H fp, PG (X.inner scope own ix C s H fp) tg g) (hi : ∀ C s H fp, PIfs (X.inner scope own ix C s H fp) ifs tc) (he : ∀ C s H fp, PE (X.inner scope own ix C s H fp) elt te)
    (I : Inv X pins σ H s) (T : Turn X.prog X.w X.K tg J fp it tn) (t0 : tn 0 s.heap) (hf : ∀ b ∈ fp, FpOk X pins H b)
    (h : ∀ D, H D = none → Comps own ix g tc te σ J H D (Q D))
    (hRR : ∀ D C H' σ' s', Inv (X.inner scope own ix C s H fp) [] σ' H' s' → s.heap.objs.size ≤ C → Q D H' → RR (.ref D) C (.ok .next) s') :
    wpAny (model X.prog X.w) X.A (newList []) (fun acc s₃ => wpAny (model X.prog X.w) X.A (newFunctionEnv scope X.env.globals (clos X.env.cells scope.names []) [] X.env.qual none .none (some X.env)) (fun cenv s₄ =>
      codeAny (model X.prog X.w) X.A (.compStart (.ListComp elt [⟨tg, iter, ifs, 0⟩] scope pos) 0 (.ref it) acc { cenv with scope := relabel scope X.env }) (RR acc cenv.locals) s₄) E s₃) E s := by
  refine wpAny_newObj_type (wpAny_newFunctionEnv B.nocell (by intro y hy; simp at hy) (fun h₁ hns₁ hsb₁ => ?_) B.kind)
  dsimp only at hns₁ hsb₁ ⊢
  generalize hH2 : s.heap.push { cls := .type "list", dict := none, data := .seq ([] : List Value).toArray } = H2 at hns₁ hsb₁ ⊢
  have hC : H2.objs.size = s.heap.objs.size + 1 := by rw [← hH2, Heap.size_push]
  have hDC : s.heap.objs.size ≠ H2.objs.size := by rw [hC]; exact Nat.ne_of_lt (Nat.lt_succ_self _)
  have below : ∀ b, b < s.heap.objs.size → b ≠ H2.objs.size := fun b hb => by rw [hC]; exact Nat.ne_of_lt (Nat.lt_succ_of_lt hb)
  have old : ∀ b o, s.heap.get? b = some o → h₁.get? b = some o := fun b o e => hsb₁.extBut b o (below b (Heap.lt_size e)) (Heap.get?_push_of_some _ (hH2 ▸ Heap.get?_push_of_some _ e))
  have hacc : h₁.get? s.heap.objs.size = some { cls := .type "list", data := .seq ([] : List Value).toArray } := hsb₁.extBut _ _ hDC (Heap.get?_push_of_some _ (hH2 ▸ Heap.get?_push_size _ rfl))
  have hfo : ∀ b ∈ fp, ∃ o, s.heap.get? b = some o := fun b hb => by
    obtain ⟨o, e, _⟩ := T.obj _ _ t0 b hb
    exact ⟨o, e⟩
  obtain ⟨W, ⟨m0, w0⟩, turn⟩ := h s.heap.objs.size (I.hok.fresh (Nat.le_refl _))
  have I1 := B.start (fp := fp) (tk := s.toks + ([] : List (Str × Value)).length) I hf hfo rfl hC old hacc hns₁
  have t1 : tn 0 h₁ := T.keep _ _ _ t0 fun b _ o e => old b o e
  have f1 : ∀ b ∈ fp, (upd H s.heap.objs.size (.lst [])) b = none := fun b hb => by
    obtain ⟨o, e⟩ := hfo b hb
    rw [upd_ne (Nat.ne_of_lt (Heap.lt_size e))]
    exact (hf b hb).1
  have stat : ∀ {H' : Hp}, (∀ b ∈ fp, H' b = none) → ∀ b ∈ fp, FpOk (X.inner scope own ix H2.objs.size s H fp) [] H' b := fun hn b hb => by
    obtain ⟨q1, q2⟩ := I1.ok.exf b hb
    exact ⟨hn b hb, q1, I1.ok.exfs b hb, .inl hb, q2, fun p hp => absurd (show p ∈ ([] : List (Addr × Obj)) from hp) (by simp)⟩
  have loop : ∀ s₃ : Shared, s₃ = { s with heap := h₁, toks := s.toks + ([] : List (Str × Value)).length } →
      codeAny (model X.prog X.w) X.A (.compLoop (.ListComp elt [⟨tg, iter, ifs, 0⟩] scope pos) 0 (.ref it) (.ref s.heap.objs.size) (compEnvC scope (clos X.env.cells scope.names []) H2.objs.size X.env))
        (RR (.ref s.heap.objs.size) H2.objs.size) s₃ := by
    rintro s₃ rfl
    refine compLoop_any (fun n s' => ∃ i Hi, Inv (X.inner scope own ix H2.objs.size s H fp) [] (inS own ix σ) Hi s' ∧ tn i s'.heap ∧ (∀ b ∈ fp, Hi b = none) ∧ W i n Hi) ?_ m0 ⟨0, _, I1, t1, f1, w0⟩
    rintro n s3 ⟨i, H3, I3, st3, fr3, w3⟩
    rcases turn i n H3 w3 with ⟨stop, q⟩ | ⟨go, step⟩
    · refine thn (T.done (X.inner scope own ix H2.objs.size s H fp) rfl rfl rfl hc i [] s3 _ H3 _ I3 (stat fr3) st3 stop) fun r s4 ⟨hr, I4⟩ => ?_
      subst hr
      exact hRR _ _ _ _ _ I4 (by rw [hC]; exact Nat.le_succ _) q
    · refine thn (T.item (X.inner scope own ix H2.objs.size s H fp) rfl rfl rfl hc i [] s3 _ H3 _ I3 (stat fr3) st3 go) fun r s4 ⟨u, hr, h4⟩ => ?_
      subst hr
      refine thn h4 fun _ s5 ⟨x, H5, I5, r5, y5, st5, fr5⟩ => ?_
      have I5' := I5.pinned (stat fr5) (T.obj _ _ st5)
      refine thn (hg _ _ _ _ _ s5 _ H5 x u _ I5' r5 (ho _ _ _ _ (step x H5 y5))) fun _ s6 ⟨σ6, H6, I6, ⟨l6, o6⟩, q6⟩ => ?_
      refine thn (hi _ _ _ _ _ s6 σ6 H6 _ I6 q6) fun b s7 ⟨H7, I7, q7⟩ => ?_
      have again : ∀ {H' : Hp} {s' : Shared}, Inv (X.inner scope own ix H2.objs.size s H fp) ([] ++ pinsAt fp s5.heap) σ6 H' s' → (∃ m', m' < n ∧ W (i + 1) m' H') →
          ∃ m, m < n ∧ ∃ i Hi, Inv (X.inner scope own ix H2.objs.size s H fp) [] (inS own ix σ) Hi s' ∧ tn i s'.heap ∧ (∀ b ∈ fp, Hi b = none) ∧ W i m Hi := fun {H' s'} J w => by
        obtain ⟨m', hm, w⟩ := w
        refine ⟨m', hm, i + 1, H', J.unpinned.weak l6.symm (inS_weak l6 o6), T.keep _ _ _ st5 fun b hb o e => (J.pin (b, o) (List.mem_append_right _ (List.mem_append_right _ (mem_pinsAt hb e)))).1, fun b hb => ?_, w⟩
        obtain ⟨o, e, d⟩ := T.obj _ _ st5 b hb
        exact (J.pin (b, o) (List.mem_append_right _ (List.mem_append_right _ (mem_pinsAt hb e)))).2.1
      cases b with
      | false =>
        rw [if_neg Bool.false_ne_true] at q7
        rw [if_neg Bool.false_ne_true]
        exact again I7 q7
      | true =>
        rw [if_pos rfl] at q7
        rw [if_pos rfl]
        refine thn (he _ _ _ _ _ s7 σ6 H7 _ I7 q7) fun v s8 ⟨y, H8, I8, r8, ys, e8, z8, w8⟩ => ?_
        refine thn (mt_append (X := X.inner scope own ix H2.objs.size s H fp) _ s8 σ6 H8 (.ref s.heap.objs.size) [y] (.ref s.heap.objs.size) [v] (fun _ H' => ∃ m', m' < n ∧ W (i + 1) m' H') I8 rfl (.cons r8 .nil) ⟨_, ys, y, rfl, rfl, e8, z8, w8⟩) fun _ s9 ⟨_, H9, I9, _, w9⟩ => ?_
        exact again I9 w9
  exact codeAny_compStart_list (loop _ rfl) (T.self _ 0 _ _ _ t1 (loop _ rfl))
theorem pe_comp {elt tg iter : Expr} {ifs : List Expr} {pos : Pos} {wi : TI} {g : TG} {tc : TT} {te : TE} (own : List Str) (ix : List Nat) (B : Blk X scope own ix) (hc : X.calm = true) (ho : GOwn own.length g) (hw : PI X tg iter wi)
    (hg : ∀ C s H fp, PG (X.inner scope own ix C s H fp) tg g) (hi : ∀ C s H fp, PIfs (X.inner scope own ix C s H fp) ifs tc) (he : ∀ C s H fp, PE (X.inner scope own ix C s H fp) elt te)
    (hs : ∀ x, foldedSetIterable iter X.env x = pure x := by intro _; rfl) : PE X (.ListComp elt [⟨tg, iter, ifs, 0⟩] scope pos) (tComp own ix wi g tc te) := by
  intro pins s σ H Q I h
  rw [eval_ListComp]
  refine wpAny_comprehension_free (use := none) rfl hs (closure_eq (B.cells I.ok)) B.kind B.loc (thn (hw pins s σ H _ I h) fun v s1 h1 => thn h1 fun itv s2 h2 => ?_)
  obtain ⟨it, fp, tn, J, H2, e, I2, T, st2, f2, R⟩ := h2
  subst e
  refine comp_block B hc ho hg hi he I2 T st2 f2 R fun D C H' σ' s' J' hC q => ?_
  obtain ⟨m, hn, _⟩ := J'.loc
  exact ⟨m, hn, fun h' hs' => ⟨.ref D, H', Blk.back I2 f2 hC J' hs', rfl, q⟩⟩
theorem ps_comp {elt tg iter : Expr} {ifs : List Expr} {pos spos py : Pos} {wi : TI} {g : TG} {tc : TT} {te : TE} {i : Nat} {y : Str} (own : List Str) (ix : List Nat) (B : Blk X scope own ix) (hc : X.calm = true) (ho : GOwn own.length g) (hN : X.N.Nodup) (hy : X.N[i]? = some y) (hx : X.env.scope.names.lookup y = some .local)
    (hsw : swapsWith (.ListComp elt [⟨tg, iter, ifs, 0⟩] scope pos) (some (.Name y py)) spos.line X.env = pure true) (hw : PI X tg iter wi)
    (hg : ∀ C s H fp, PG (X.inner scope own ix C s H fp) tg g) (hi : ∀ C s H fp, PIfs (X.inner scope own ix C s H fp) ifs tc) (he : ∀ C s H fp, PE (X.inner scope own ix C s H fp) elt te)
    (hs : ∀ x, foldedSetIterable iter X.env x = pure x := by intro _; rfl) : PS X (.Assign [.Name y py] (.ListComp elt [⟨tg, iter, ifs, 0⟩] scope pos) spos) (tAsg (tComp own ix wi g tc te) (gName i)) := by
  intro pins s σ H D I h
  rw [exec_Assign_Name_used _ _ _ _ hsw]
  refine wpAny_bind (wpAny_standAt (wpAny_bind ?_))
  show wpAny _ X.A (do let _ ← comprehension (.ListComp elt [⟨tg, iter, ifs, 0⟩] scope pos) scope X.env _ (newList []) false (eval iter X.env) (some (assign (.Name y py) X.env))) _ _ s
  refine wpAny_bind (wpAny_mono (wpAny_comprehension_free (use := some (assign (.Name y py) X.env)) (Q := fun _ s' => SP X pins D .next s') rfl hs (closure_eq (B.cells I.ok)) B.kind B.loc
    (thn (hw pins s σ H _ I h) fun v s1 h1 => thn h1 fun itv s2 h2 => ?_)) (fun _ s' hq => wpAny_pure (wpAny_pure hq)) fun _ _ e => e)
  obtain ⟨it, fp, tn, J, H2, e, I2, T, st2, f2, R⟩ := h2
  subst e
  refine comp_block B hc ho hg hi he I2 T st2 f2 R fun D' C H' σ' s' J' hC q => ?_
  show wpAny _ X.A (assign (.Name y py) X.env (.ref D')) _ _ _
  obtain ⟨m, hn, _⟩ := J'.loc
  have I3 : Inv X pins σ H' s' := by
    have := Blk.back I2 f2 hC J' (Heap.SameBut.refl C s'.heap)
    exact this
  obtain ⟨oC, es, ep, eC, dC, rC⟩ := hn
  have hCl : C ≠ X.env.locals := Nat.ne_of_gt (Nat.lt_of_lt_of_le I2.lt hC)
  have I4 : Inv X (pins ++ [(C, oC)]) σ H' s' := I3.pins_of fun p hp => by
    rcases List.mem_append.mp hp with z | z
    · exact I3.pin p (List.mem_append_right _ z)
    · have z' : p = (C, oC) := by simpa using z
      subst z'
      exact ⟨eC, J'.free, hCl, I2.nofs hC, fun v z => by
        have z' : oC.data = .cell v := z
        rw [dC] at z'; cases z'⟩
  refine wpAny_assign_Name (store_ok (v := .ref D') I4 hN hy (.inl hx) rfl (fun s3 I5 => ?_) (.inr hx))
  have pC := I5.pin (C, oC) (List.mem_append_right _ (List.mem_append_right _ (by simp)))
  refine ⟨m, ⟨oC, es, ep, pC.1, dC, rC⟩, fun h' hs' => ⟨_, H', ?_, q⟩⟩
  have I6 : Inv X pins (σ.set i (some (.ref D'))) H' s3 := I5.pins_of fun p hp => I5.pin p (List.mem_append_right _ (List.mem_append_left _ hp))
  refine Inv.turned (t' := s3.toks) I6 (fun b o hb e => (hs'.2 b hb).trans e) J'.free hCl (.inr (Nat.le_trans I2.sz hC)) (fun x c hx' z => ?_) fun p hp z => ?_
  · obtain ⟨v, o, ho', _⟩ := I2.cell x c hx'
    have := Heap.lt_size ho'
    rw [z] at this
    exact absurd (Nat.lt_of_lt_of_le this hC) (Nat.lt_irrefl _)
  · have := Heap.lt_size (I2.pin p hp).1
    rw [z] at this
    exact absurd (Nat.lt_of_lt_of_le this hC) (Nat.lt_irrefl _)
end
end L2

namespace L2
open PySem PySem.Spec PyProof.Rows

noncomputable def Cal (P : Program) (w : World) (K : PySem.W.Frag) (mg : Str → Option Value) (base : Heap) (x : Str) (k : Nat) (sp : Sp) : Prop :=
  ∃ f fd ps, mg x = some (.ref f) ∧ FnOk P w K mg base CX0 k f fd ps sp ∧ PySem.W.keepIn K (.ref f) = true ∧ Binds K fd ps []
section
variable {X : Cx} {k : Nat} {x : Str} {sp : Sp} {p pos : Pos} {e : Expr} {es : List Expr} {t : TA}
theorem pe_cal (c : Cal X.prog X.w X.K X.mg X.base x k sp) (hr : Room k X.A) (hg : Gl X x) (ha : PA X (e :: es) t) (hdb : (x == ("__debug__" : Str)) = false := by decide)
    (he : starEach (e :: es) X.env = (false, eval e X.env) :: starEach es X.env := by rfl) (hpl : (backTo pos (starEach es X.env)).any (·.1) = false := by rfl) : PE X (.Call (.Name x p) (e :: es) [] pos) (tCall sp [] E0 t) := by
  obtain ⟨f, fd, ps, hm, F, hk, hb⟩ := c
  exact pe_call F hr hg hm hk hb .nil pass0 ha hdb he hpl
theorem pe_globI {i : Int} (hg : Gl X x) (hm : ∃ t, X.mg x = some (.int i t)) (hd : (x == ("__debug__" : Str)) = false := by decide) : PE X (.Name x pos) (tC (.int i)) := by
  obtain ⟨t, hm⟩ := hm
  exact pe_glob hg hm ⟨t, rfl⟩ hd
end

section
variable {X : Cx} {tg : Expr}
end
end L2

namespace L2
open PySem PySem.Spec PyProof.Rows

theorem b_isinstance : bootBuiltins "isinstance" = some (.builtin "isinstance") := by decide +kernel
theorem b_int : bootBuiltins "int" = some (.type "int") := by decide +kernel
theorem b_bool : bootBuiltins "bool" = some (.type "bool") := by decide +kernel
theorem b_str : bootBuiltins "str" = some (.type "str") := by decide +kernel
theorem b_list : bootBuiltins "list" = some (.type "list") := by decide +kernel
theorem b_tuple : bootBuiltins "tuple" = some (.type "tuple") := by decide +kernel
theorem b_set : bootBuiltins "set" = some (.type "set") := by decide +kernel
theorem b_ValueError : bootBuiltins "ValueError" = some (.type "ValueError") := by decide +kernel
theorem b_min : bootBuiltins "min" = some (.builtin "min") := by decide +kernel
theorem b_sorted : bootBuiltins "sorted" = some (.builtin "sorted") := by decide +kernel
section
variable {X : Cx} {e : Expr} {te : TE} {p p2 pos : Pos} {c : Str} {T : String}
theorem call_isB : CallR X (.builtin "isinstance") (fun xs H Q => ∃ x T t b, xs = [x, .ty T] ∧ TyOf X.K H x t ∧ PySem.W.kitOne X.K t (.type T) = some b ∧ Q (.bl b) H) := by
  intro pins s σ H xs us Q I r h
  obtain ⟨x, T, t, b, rfl, ty, hk, q⟩ := h
  obtain ⟨u, v, rfl, rx, rt⟩ := r.two
  cases (show v = Value.type T from rt)
  exact isinst_ok I rx ty hk fun tk => ⟨.bl b, H, I.tok tk, rfl, q⟩
noncomputable def tIsB (K : PySem.W.Frag) (te : TE) (T : String) : TE := fun σ H Q => te σ H fun x H1 => ∃ t b, TyOf K H1 x t ∧ PySem.W.kitOne K t (.type T) = some b ∧ Q (.bl b) H1
theorem pe_isB (hg : Gl X "isinstance") (hm : X.mg "isinstance" = none) (hg2 : Gl X c) (hm2 : X.mg c = none) (hb : bootBuiltins c = some (.type T)) (he : PE X e te) (hn : c ≠ "__name__" := by decide) (hd : (c == ("__debug__" : Str)) = false := by decide)
    (h1 : starEach [e, .Name c p2] X.env = [(false, eval e X.env), (false, eval (.Name c p2) X.env)] := by rfl) (h2 : starEach [.Name c p2] X.env = [(false, eval (.Name c p2) X.env)] := by rfl) :
    PE X (.Call (.Name "isinstance" p) [e, .Name c p2] [] pos) (tIsB X.K te T) := by
  intro pins s σ H Q I h
  have pa : PA X [e, .Name c p2] (tCons te (tCons (tC (.ty T)) tNil)) := pa_cons he (pa_cons (pe_bltn hg2 hm2 hb rfl hn hd) pa_nil (by rw [h2]; rfl)) (by rw [h1, h2])
  refine pe_callB call_isB hg hm b_isinstance pa (by decide) (by decide) (by rw [h1, h2]) (by rw [h2]; rfl) pins s σ H Q I ?_
  have mono : te σ H (fun x H1 => ∃ t b, TyOf X.K H1 x t ∧ PySem.W.kitOne X.K t (.type T) = some b ∧ Q (.bl b) H1) := h
  show te σ H fun x H1 => ∃ x1 T1 t b, [x, V.ty T] = [x1, V.ty T1] ∧ TyOf X.K H1 x1 t ∧ PySem.W.kitOne X.K t (.type T1) = some b ∧ Q (.bl b) H1
  have e1 : (fun (x : V) (H1 : Hp) => ∃ x1 T1 t b, [x, V.ty T] = [x1, V.ty T1] ∧ TyOf X.K H1 x1 t ∧ PySem.W.kitOne X.K t (.type T1) = some b ∧ Q (.bl b) H1) = fun x H1 => ∃ t b, TyOf X.K H1 x t ∧ PySem.W.kitOne X.K t (.type T) = some b ∧ Q (.bl b) H1 := by
    funext x H1
    apply propext
    constructor
    · rintro ⟨x1, T1, t, b, e, h⟩
      injection e with e1 e2
      injection e2 with e3 _
      injection e3 with e4
      subst e1 e4
      exact ⟨t, b, h⟩
    · rintro ⟨t, b, h⟩
      exact ⟨x, T, t, b, rfl, h⟩
  rw [e1]
  exact mono
end
example (K : PySem.W.Frag) : PySem.W.kitOne K (.type "int") (.type "int") = some true := rfl
example (K : PySem.W.Frag) : PySem.W.kitOne K (.type "int") (.type "bool") = some false := by rfl
example (K : PySem.W.Frag) : PySem.W.kitOne K (.type "tuple") (.type "tuple") = some true := rfl

inductive Dt where
  | i (n : Int) | b (x : Bool) | s (x : Str) | t (xs : List Dt) | l (xs : List Dt)
mutual
noncomputable def deq : Dt → Dt → Bool
  | .i a, .i c => a == c
  | .b a, .b c => a == c
  | .s a, .s c => a == c
  | .t xs, .t ys => deqs xs ys
  | .l xs, .l ys => deqs xs ys
  | _, _ => false
noncomputable def deqs : List Dt → List Dt → Bool
  | [], [] => true
  | x :: xs, y :: ys => deq x y && deqs xs ys
  | _, _ => false
end
mutual
noncomputable def like : Dt → Dt → Prop
  | .i _, .i _ => True
  | .b _, .b _ => True
  | .s _, .s _ => True
  | .t xs, .t ys => likes xs ys
  | .l xs, .l ys => likes xs ys
  | _, _ => False
noncomputable def likes : List Dt → List Dt → Prop
  | x :: xs, y :: ys => like x y ∧ likes xs ys
  | _, _ => True
end
mutual
noncomputable def dep : Dt → Nat
  | .t xs => deps xs + 1
  | .l xs => deps xs + 1
  | _ => 0
noncomputable def deps : List Dt → Nat
  | [] => 0
  | x :: xs => max (dep x) (deps xs)
end
mutual
noncomputable def AtD (K : PySem.W.Frag) (H : Hp) : V → Dt → Prop
  | v, .i n => v = .int n
  | v, .b x => v = .bl x
  | v, .s x => v = .str x
  | v, .t xs => ∃ a vs, v = .ref a ∧ SqT K H a vs ∧ AtDs K H vs xs
  | v, .l xs => ∃ a vs, v = .ref a ∧ SqL K H a vs ∧ AtDs K H vs xs
noncomputable def AtDs (K : PySem.W.Frag) (H : Hp) : List V → List Dt → Prop
  | [], [] => True
  | v :: vs, x :: xs => AtD K H v x ∧ AtDs K H vs xs
  | _, _ => False
end
theorem AtDs.len {K : PySem.W.Frag} {H : Hp} : ∀ {vs : List V} {xs : List Dt}, AtDs K H vs xs → vs.length = xs.length
  | [], [], _ => rfl
  | _ :: _, _ :: _, h => by simp only [List.length_cons]; rw [AtDs.len h.2]
  | [], _ :: _, h => h.elim
  | _ :: _, [], h => h.elim
theorem AtDs.at {K : PySem.W.Frag} {H : Hp} : ∀ {vs : List V} {xs : List Dt} {i : Nat} {v : V}, AtDs K H vs xs → vs[i]? = some v → ∃ x, xs[i]? = some x ∧ AtD K H v x
  | [], [], _, _, _, e => by simp at e
  | v :: vs, x :: xs, 0, _, h, e => by simp at e; subst e; exact ⟨x, rfl, h.1⟩
  | v :: vs, x :: xs, i + 1, w, h, e => by
    obtain ⟨y, e1, e2⟩ := AtDs.at (i := i) h.2 (by simpa using e)
    exact ⟨y, by simpa using e1, e2⟩
  | [], _ :: _, _, _, h, _ => h.elim
  | _ :: _, [], _, _, h, _ => h.elim
theorem likes.at : ∀ {xs ys : List Dt} {i : Nat} {x y : Dt}, likes xs ys → xs[i]? = some x → ys[i]? = some y → like x y
  | x :: xs, y :: ys, 0, _, _, h, e1, e2 => by simp at e1 e2; subst e1 e2; exact h.1
  | x :: xs, y :: ys, i + 1, _, _, h, e1, e2 => likes.at (i := i) h.2 (by simpa using e1) (by simpa using e2)
  | [], _, _, _, _, _, e1, _ => by simp at e1
  | _ :: _, [], _, _, _, _, _, e2 => by simp at e2
theorem deps_le {xs : List Dt} {i : Nat} {x : Dt} : xs[i]? = some x → dep x ≤ deps xs := by
  induction xs generalizing i with
  | nil => intro e; simp at e
  | cons y ys ih =>
    intro e
    cases i with
    | zero => simp at e; subst e; exact Nat.le_max_left _ _
    | succ i => exact Nat.le_trans (ih (i := i) (by simpa using e)) (Nat.le_max_right _ _)
theorem deqs_iff : ∀ {xs ys : List Dt}, xs.length = ys.length → (deqs xs ys = true ↔ ∀ (i : Nat) (x y : Dt), xs[i]? = some x → ys[i]? = some y → deq x y = true)
  | [], [], _ => ⟨fun _ i x y e _ => by simp at e, fun _ => rfl⟩
  | x :: xs, y :: ys, h => by
    have h' : xs.length = ys.length := by simpa using h
    unfold deqs
    rw [Bool.and_eq_true, deqs_iff h']
    constructor
    · rintro ⟨h1, h2⟩ i u v e1 e2
      cases i with
      | zero => simp at e1 e2; subst e1 e2; exact h1
      | succ i => exact h2 i u v (by simpa using e1) (by simpa using e2)
    · intro q
      exact ⟨q 0 x y rfl rfl, fun i u v e1 e2 => q (i + 1) u v (by simpa using e1) (by simpa using e2)⟩
  | [], _ :: _, h => by simp at h
  | _ :: _, [], h => by simp at h
theorem deqs_len : ∀ {xs ys : List Dt}, ¬ xs.length = ys.length → deqs xs ys = false
  | [], [], h => absurd rfl h
  | x :: xs, y :: ys, h => by
    unfold deqs
    rw [deqs_len (xs := xs) (ys := ys) (by simpa using h), Bool.and_false]
  | [], _ :: _, _ => rfl
  | _ :: _, [], _ => rfl

section
variable {X : Cx} {pins : List (Addr × Obj)} {σ : St} {H : Hp} {s : Shared}
theorem AtD.uniq (I : Inv X pins σ H s) : ∀ (n : Nat) {x : V} {d e : Dt}, dep d ≤ n → AtD X.K H x d → AtD X.K H x e → like d e → deq d e = true := by
  intro n
  induction n with
  | zero =>
    intro x d e hn h1 h2 hl
    cases d with
    | i a =>
      cases e with
      | i c => rw [show x = _ from h1] at h2; injection h2 with h3; subst h3; simp [deq]
      | _ => exact hl.elim
    | b a =>
      cases e with
      | b c => rw [show x = _ from h1] at h2; injection h2 with h3; subst h3; simp [deq]
      | _ => exact hl.elim
    | s a =>
      cases e with
      | s c => rw [show x = _ from h1] at h2; injection h2 with h3; subst h3; simp [deq]
      | _ => exact hl.elim
    | t xs => unfold dep at hn; omega
    | l xs => unfold dep at hn; omega
  | succ n ih =>
    intro x d e hn h1 h2 hl
    have row : ∀ {vs : List V} {xs ys : List Dt}, deps xs ≤ n → AtDs X.K H vs xs → AtDs X.K H vs ys → likes xs ys → deqs xs ys = true := fun {vs xs ys} hd a1 a2 hl => by
      rw [deqs_iff (a1.len.symm.trans a2.len)]
      intro i x y e1 e2
      have hi : i < vs.length := by rw [a1.len]; exact (List.getElem?_eq_some_iff.mp e1).1
      obtain ⟨x1, f1, g1⟩ := a1.at (List.getElem?_eq_getElem hi)
      obtain ⟨y1, f2, g2⟩ := a2.at (List.getElem?_eq_getElem hi)
      rw [e1] at f1; rw [e2] at f2; cases f1; cases f2
      exact ih (Nat.le_trans (deps_le e1) hd) g1 g2 (hl.at e1 e2)
    cases d with
    | i a =>
      cases e with
      | i c => rw [show x = _ from h1] at h2; injection h2 with h3; subst h3; simp [deq]
      | _ => exact hl.elim
    | b a =>
      cases e with
      | b c => rw [show x = _ from h1] at h2; injection h2 with h3; subst h3; simp [deq]
      | _ => exact hl.elim
    | s a =>
      cases e with
      | s c => rw [show x = _ from h1] at h2; injection h2 with h3; subst h3; simp [deq]
      | _ => exact hl.elim
    | t xs =>
      cases e with
      | t ys =>
        obtain ⟨a, vs, rfl, q1, a1⟩ := h1
        obtain ⟨b, ws, e2, q2, a2⟩ := h2
        cases e2
        rw [I.tuple_inj q2 q1] at a2
        unfold dep at hn
        exact row (by omega) a1 a2 hl
      | _ => exact hl.elim
    | l xs =>
      cases e with
      | l ys =>
        obtain ⟨a, vs, rfl, q1, a1⟩ := h1
        obtain ⟨b, ws, e2, q2, a2⟩ := h2
        cases e2
        rw [I.list_inj q2 q1] at a2
        unfold dep at hn
        exact row (by omega) a1 a2 hl
      | _ => exact hl.elim
theorem all_range {n : Nat} {e : Nat → Bool} : (List.range n).all e = true ↔ ∀ i, i < n → e i = true := by
  simp [List.all_eq_true]
noncomputable def eAt (xs ys : List Dt) (i : Nat) : Bool := match xs[i]?, ys[i]? with
  | some x, some y => deq x y
  | _, _ => true
theorem eAt_all {xs ys : List Dt} (h : xs.length = ys.length) : (List.range xs.length).all (eAt xs ys) = deqs xs ys := by
  rw [Bool.eq_iff_iff, all_range, deqs_iff h]
  constructor
  · intro q i x y e1 e2
    have := q i (List.getElem?_eq_some_iff.mp e1).1
    unfold eAt at this
    rw [e1, e2] at this
    exact this
  · intro q i hi
    unfold eAt
    rw [List.getElem?_eq_getElem hi, List.getElem?_eq_getElem (show i < ys.length by omega)]
    exact q i _ _ (List.getElem?_eq_getElem hi) (List.getElem?_eq_getElem (by omega))
theorem AtD.eq (I : Inv X pins σ H s) : ∀ (n : Nat) {A : Around} {x y : V} {u v : Value} {d e : Dt}, dep d ≤ n → A.units + n < cLine → RelV x u → RelV y v → AtD X.K H x d → AtD X.K H y e → like d e → SeqAt.EqAt A s u v (deq d e) := by
  have flat : ∀ {A : Around} {x y : V} {u v : Value} {d e : Dt}, dep d = 0 → RelV x u → RelV y v → AtD X.K H x d → AtD X.K H y e → like d e → SeqAt.EqAt A s u v (deq d e) := by
    intro A x y u v d e h0 rx ry h1 h2 hl
    cases d with
    | i a =>
      cases e with
      | i c =>
        cases (show x = _ from h1)
        cases (show y = _ from h2)
        obtain ⟨t, rfl⟩ := rx
        obtain ⟨t', rfl⟩ := ry
        exact SeqAt.EqAt.int_int a t c t'
      | _ => exact hl.elim
    | b a =>
      cases e with
      | b c =>
        cases (show x = _ from h1)
        cases (show y = _ from h2)
        cases rx
        cases ry
        exact SeqAt.EqAt.bool_bool a c
      | _ => exact hl.elim
    | s a =>
      cases e with
      | s c =>
        cases (show x = _ from h1)
        cases (show y = _ from h2)
        obtain ⟨t, rfl⟩ := rx
        obtain ⟨t', rfl⟩ := ry
        exact SeqAt.EqAt.str_str a t c t'
      | _ => exact hl.elim
    | t xs => unfold dep at h0; omega
    | l xs => unfold dep at h0; omega
  intro n
  induction n with
  | zero => intro A x y u v d e hn _ rx ry h1 h2 hl; exact flat (by omega) rx ry h1 h2 hl
  | succ n ih =>
    intro A x y u v d e hn hu rx ry h1 h2 hl
    have item : ∀ {vs ws : List V} {us zs : List Value} {xs ys : List Dt}, deps xs ≤ n → Vals vs us → Vals ws zs → AtDs X.K H vs xs → AtDs X.K H ws ys → likes xs ys →
        ∀ j (j1 : j < us.toArray.size) (j2 : j < zs.toArray.size), SeqAt.EqAt A.in1 s us.toArray[j] zs.toArray[j] (eAt xs ys j) := by
      intro vs ws us zs xs ys hd r1 r2 a1 a2 hl j j1 j2
      have k1 : j < vs.length := by rw [r1.length]; simpa using j1
      have k2 : j < ws.length := by rw [r2.length]; simpa using j2
      obtain ⟨u1, e1, q1⟩ := r1.get (List.getElem?_eq_getElem k1)
      obtain ⟨z1, e2, q2⟩ := r2.get (List.getElem?_eq_getElem k2)
      obtain ⟨x1, f1, g1⟩ := a1.at (List.getElem?_eq_getElem k1)
      obtain ⟨y1, f2, g2⟩ := a2.at (List.getElem?_eq_getElem k2)
      have m1 : us.toArray[j] = u1 := by
        have : us[j]? = some us.toArray[j] := by simp
        rw [e1] at this; exact (Option.some.inj this).symm
      have m2 : zs.toArray[j] = z1 := by
        have : zs[j]? = some zs.toArray[j] := by simp
        rw [e2] at this; exact (Option.some.inj this).symm
      rw [m1, m2]
      unfold eAt
      rw [f1, f2]
      exact ih (A := A.in1) (Nat.le_trans (deps_le f1) hd) (by show A.units + 1 + n < cLine; (clear hd hn; omega)) q1 q2 g1 g2 (hl.at f1 f2)
    cases d with
    | t xs =>
      cases e with
      | t ys =>
        have hu' : A.units < cLine := by (clear hn; omega)
        unfold dep at hn
        have h1' := h1
        have h2' := h2
        obtain ⟨a, vs, rfl, q1, a1⟩ := h1
        obtain ⟨b, ws, rfl, q2, a2⟩ := h2
        cases rx
        cases ry
        by_cases hab : a = b
        · subst hab
          have := AtD.uniq I (n + 1) (d := .t xs) (by unfold dep; (clear hu' hu; omega)) h1' h2' hl
          rw [this]
          exact SeqAt.EqAt.same _
        · obtain ⟨us, r1, t1, _⟩ := I.tuple q1
          obtain ⟨zs, r2, t2, _⟩ := I.tuple q2
          have lx : us.length = xs.length := r1.length.symm.trans a1.len
          have ly : zs.length = ys.length := r2.length.symm.trans a2.len
          have key := SeqAt.EqAt.of_refs hab (SeqAt.RcAt.tuples (e := eAt xs ys) t1 t2 hu' (item (by (clear ly lx hab hu' hu; omega)) r1 r2 a1 a2 hl))
          have e : ((List.range (min us.toArray.size zs.toArray.size)).all (eAt xs ys) && us.toArray.size == zs.toArray.size) = deqs xs ys := by
            rw [List.size_toArray, List.size_toArray, lx, ly]
            by_cases hlen : xs.length = ys.length
            · rw [← hlen, Nat.min_self, eAt_all hlen]; simp
            · rw [deqs_len hlen]
              have : (xs.length == ys.length) = false := by simpa using hlen
              rw [this, Bool.and_false]
          rw [e] at key
          exact key
      | _ => exact hl.elim
    | l xs =>
      cases e with
      | l ys =>
        have hu' : A.units < cLine := by (clear hn; omega)
        unfold dep at hn
        have h1' := h1
        have h2' := h2
        obtain ⟨a, vs, rfl, q1, a1⟩ := h1
        obtain ⟨b, ws, rfl, q2, a2⟩ := h2
        cases rx
        cases ry
        by_cases hab : a = b
        · subst hab
          have := AtD.uniq I (n + 1) (d := .l xs) (by unfold dep; (clear hu' hu; omega)) h1' h2' hl
          rw [this]
          exact SeqAt.EqAt.same _
        · obtain ⟨us, r1, t1, _⟩ := I.list q1
          obtain ⟨zs, r2, t2, _⟩ := I.list q2
          have lx : us.length = xs.length := r1.length.symm.trans a1.len
          have ly : zs.length = ys.length := r2.length.symm.trans a2.len
          by_cases hlen : xs.length = ys.length
          · have key := SeqAt.EqAt.of_refs hab (SeqAt.RcAt.lists (e := eAt xs ys) t1.isList t2.isList (by simp; (clear hab hn hu' hu; omega)) hu' (item (by (clear hlen ly lx hab hu' hu; omega)) r1 r2 a1 a2 hl))
            rw [List.size_toArray, lx, eAt_all hlen] at key
            exact key
          · have key := SeqAt.EqAt.of_refs hab (SeqAt.RcAt.lists_lengths t1.isList t2.isList (by simp; (clear hab hn hu' hu; omega)) hu')
            rw [← deqs_len hlen] at key
            exact key
      | _ => exact hl.elim
    | i a => exact flat rfl rx ry h1 h2 hl
    | b a => exact flat rfl rx ry h1 h2 hl
    | s a => exact flat rfl rx ry h1 h2 hl
end
end L2

namespace L2
open PySem PySem.Spec PyProof.Rows
noncomputable def rEqD (K : PySem.W.Frag) (neg : Bool) : R2 := fun x y H Q => ∃ d e, AtD K H x d ∧ AtD K H y e ∧ like d e ∧ 0 < dep d ∧ dep d ≤ 60 ∧ Q (.bl (if neg then !deq d e else deq d e)) H
section
variable {X : Cx}
theorem seq_items {pins : List (Addr × Obj)} {σ : St} {H : Hp} {s : Shared} (I : Inv X pins σ H s) {A : Around} (hu : A.units + 64 < cLine) {vs ws : List V} {us zs : List Value} {xs ys : List Dt} (hd : deps xs ≤ 59) (r1 : Vals vs us) (r2 : Vals ws zs)
    (a1 : AtDs X.K H vs xs) (a2 : AtDs X.K H ws ys) (hl : likes xs ys) (j : Nat) (j1 : j < us.toArray.size) (j2 : j < zs.toArray.size) : SeqAt.EqAt A.in1 s us.toArray[j] zs.toArray[j] (eAt xs ys j) := by
  have k1 : j < vs.length := by rw [r1.length]; simpa using j1
  have k2 : j < ws.length := by rw [r2.length]; simpa using j2
  obtain ⟨u1, e1, q1⟩ := r1.get (List.getElem?_eq_getElem k1)
  obtain ⟨z1, e2, q2⟩ := r2.get (List.getElem?_eq_getElem k2)
  obtain ⟨x1, f1, g1⟩ := a1.at (List.getElem?_eq_getElem k1)
  obtain ⟨y1, f2, g2⟩ := a2.at (List.getElem?_eq_getElem k2)
  have m1 : us.toArray[j] = u1 := by
    have : us[j]? = some us.toArray[j] := by simp
    rw [e1] at this; exact (Option.some.inj this).symm
  have m2 : zs.toArray[j] = z1 := by
    have : zs[j]? = some zs.toArray[j] := by simp
    rw [e2] at this; exact (Option.some.inj this).symm
  rw [m1, m2]
  unfold eAt
  rw [f1, f2]
  exact AtD.eq I 59 (A := A.in1) (Nat.le_trans (deps_le f1) hd) (by show A.units + 1 + 59 < cLine; (clear hd; omega)) q1 q2 g1 g2 (hl.at f1 f2)
theorem op_eqN (hu : X.A.units + 64 < cLine) (neg : Bool) : OpR X (compareOp (if neg then .NotEq else .Eq)) (rEqD X.K neg) := by
  intro pins s σ H x y v u Q I rx ry h
  obtain ⟨d, e, h1, h2, hl, h0, hd, q⟩ := h
  have hu' : X.A.units < cLine := by (clear hd h0; omega)
  cases d with
  | t xs =>
    cases e with
    | t ys =>
      unfold dep at hd
      obtain ⟨a, vs, rfl, q1, a1⟩ := h1
      obtain ⟨b, ws, rfl, q2, a2⟩ := h2
      cases rx
      cases ry
      obtain ⟨us, r1, t1, _⟩ := I.tuple q1
      obtain ⟨zs, r2, t2, _⟩ := I.tuple q2
      have lx : us.length = xs.length := r1.length.symm.trans a1.len
      have ly : zs.length = ys.length := r2.length.symm.trans a2.len
      have e : ((List.range (min us.toArray.size zs.toArray.size)).all (eAt xs ys) && us.toArray.size == zs.toArray.size) = deqs xs ys := by
        rw [List.size_toArray, List.size_toArray, lx, ly]
        by_cases hlen : xs.length = ys.length
        · rw [← hlen, Nat.min_self, eAt_all hlen]; simp
        · rw [deqs_len hlen]
          have : (xs.length == ys.length) = false := by simpa using hlen
          rw [this, Bool.and_false]
      have it := seq_items I hu (by (clear ly lx h0 hu' hu; omega)) r1 r2 a1 a2 hl
      cases neg with
      | false =>
        have key := SeqAt.RcAt.tuples (A := X.A) (e := eAt xs ys) t1 t2 hu' it
        rw [e] at key
        exact key X.prog X.w _ _ ⟨.bl (deqs xs ys), H, I, rfl, q⟩
      | true =>
        have key := SeqAt.RcNeAt.tuples (A := X.A) (e := eAt xs ys) t1 t2 hu' it
        rw [e] at key
        exact key X.prog X.w _ _ ⟨.bl (!deqs xs ys), H, I, rfl, q⟩
    | _ => exact hl.elim
  | l xs =>
    cases e with
    | l ys =>
      unfold dep at hd
      obtain ⟨a, vs, rfl, q1, a1⟩ := h1
      obtain ⟨b, ws, rfl, q2, a2⟩ := h2
      cases rx
      cases ry
      obtain ⟨us, r1, t1, _⟩ := I.list q1
      obtain ⟨zs, r2, t2, _⟩ := I.list q2
      have lx : us.length = xs.length := r1.length.symm.trans a1.len
      have ly : zs.length = ys.length := r2.length.symm.trans a2.len
      have it := seq_items I hu (by (clear ly lx h0 hu' hu; omega)) r1 r2 a1 a2 hl
      by_cases hlen : xs.length = ys.length
      · cases neg with
        | false =>
          have key := SeqAt.RcAt.lists (A := X.A) (e := eAt xs ys) t1.isList t2.isList (by simp; (clear hd h0 hu' hu; omega)) hu' it
          rw [List.size_toArray, lx, eAt_all hlen] at key
          exact key X.prog X.w _ _ ⟨.bl (deqs xs ys), H, I, rfl, q⟩
        | true =>
          have key := SeqAt.RcNeAt.lists (A := X.A) (e := eAt xs ys) t1.isList t2.isList (by simp; (clear hd h0 hu' hu; omega)) hu' it
          rw [List.size_toArray, lx, eAt_all hlen] at key
          exact key X.prog X.w _ _ ⟨.bl (!deqs xs ys), H, I, rfl, q⟩
      · have ed := deqs_len hlen
        have q' : Q (.bl (if neg then !deqs xs ys else deqs xs ys)) H := q
        rw [ed] at q'
        cases neg with
        | false => exact SeqAt.RcAt.lists_lengths (A := X.A) t1.isList t2.isList (by simp; (clear hd h0 hu' hu; omega)) hu' X.prog X.w _ _ ⟨.bl false, H, I, rfl, q'⟩
        | true => exact SeqAt.RcNeAt.lists_lengths (A := X.A) t1.isList t2.isList (by simp; (clear hd h0 hu' hu; omega)) hu' X.prog X.w _ _ ⟨.bl true, H, I, rfl, q'⟩
    | _ => exact hl.elim
  | i a => exact absurd h0 (by unfold dep; (clear hd h0 hu' hu; omega))
  | b a => exact absurd h0 (by unfold dep; (clear hd h0 hu' hu; omega))
  | s a => exact absurd h0 (by unfold dep; (clear hd h0 hu' hu; omega))
theorem op_eqD (hu : X.A.units + 64 < cLine) : OpR X (compareOp .Eq) (rEqD X.K false) := op_eqN hu false
theorem op_neD (hu : X.A.units + 64 < cLine) : OpR X (compareOp .NotEq) (rEqD X.K true) := op_eqN hu true
end
end L2

namespace Tim
open PySem PyProof.Rows
noncomputable def OrdAll (prog : Program) (w : World) (Hs : Shared → Prop) (kd : SortKind) (Ok : Keyed → Prop) (R : Keyed → Keyed → Bool) : Prop := ∀ A E s, Hs s → Ord (model prog w) A E s kd Ok R
section
variable {prog : Program} {w : World} {A : Around} {E : Value → Shared → Prop} {s : Shared} {kd : SortKind} {Ok : Keyed → Prop} {R : Keyed → Keyed → Bool} {Hs : Shared → Prop}
theorem pairs_mem {vs : List Value} {x : Keyed} (h : x ∈ (pairsOf vs).toList) : x.1 = x.2 ∧ x.2 ∈ vs := by
  rw [pairsOf_toList] at h
  obtain ⟨i, hi, e⟩ := List.mem_iff_getElem.mp h
  rw [List.getElem_zip] at e
  subst e
  exact ⟨rfl, List.getElem_mem _⟩
theorem list_sort_any {a : Addr} {vs : List Value} {n : Nat} {P : PySem.Fin → Shared → Prop} (ho : s.heap.get? a = some (seqObj "list" vs.toArray n)) (hz : vs.length ≤ sizeLine)
    (hH : ∀ s' : Shared, (∀ b o, b ≠ a → s.heap.get? b = some o → s'.heap.get? b = some o) → Hs s') (hO : OrdAll prog w Hs kd Ok R) (hOk : 2 ≤ vs.length → ∀ v ∈ vs, Ok (v, v))
    (hK : 2 ≤ vs.length → ∀ (A : Around) (E : Value → Shared → Prop) (s' : Shared) (Q : SortKind → Shared → Prop), Hs s' → Q kd s' → wpAny (model prog w) A (keyKind' vs.toArray) Q E s')
    (h : ∀ out : List Value, out.Perm vs → out.Pairwise (fun u v => le R (u, u) (v, v)) → P (.done (.ret .none)) { s with heap := sortedHeap s.heap a vs out.toArray }) :
    wpAny (model prog w) A (Builtin.«list.sort» ⟨[.ref a], []⟩) P E s := by
  rw [list_sort_plain]
  have ha : a < s.heap.objs.size := Heap.lt_size ho
  refine wpAny_bind (listItems_at ho rfl ?_)
  refine wpAny_bind (listUpdate_at ho rfl ?_ (by simpa using hz))
  obtain ⟨e1, ho1⟩ : ∃ e1, (s.heap.update a (Obj.mapSeq fun _ => #[])).get? a = some (seqObj "list" #[] e1) := ⟨_, get?_update_seq ho (fun _ => #[])⟩
  refine wpAny_bind (seqEpoch_at ho1 rfl ?_)
  refine wpAny_bind (wpAny_newTuple ?_ (by simpa using hz))
  refine wpAny_bind (wpAny_newList ?_)
  refine wpAny_holding ?_
  generalize hhp : ((s.heap.update a (Obj.mapSeq fun _ => #[])).push (seqObj "tuple" vs.toArray 0)).push (seqObj "list" #[] 0) = hp
  have ho6 : hp.get? a = some (seqObj "list" #[] e1) := by
    rw [← hhp, Heap.get?_push_ne _ _ _ (by rw [size_push', Heap.size_update]; exact Nat.ne_of_lt (Nat.lt_succ_of_lt ha)), Heap.get?_push_ne _ _ _ (by rw [Heap.size_update]; exact Nat.ne_of_lt ha)]
    exact ho1
  have hst : Hs { s with heap := hp } := hH _ fun b o hb e => by
    show hp.get? b = some o
    rw [← hhp]
    exact Heap.get?_push_of_some _ (Heap.get?_push_of_some _ ((Heap.get?_update_other _ _ (Ne.symm hb)).trans e))
  show wpAny (model prog w) A _ P E { s with heap := hp }
  dsimp only
  have hsz : vs.toArray.size = vs.length := by simp
  have fin : ∀ out : Array Value, out.size = vs.length → P (.done (.ret .none)) { s with heap := sortedHeap s.heap a vs out } → P (.done (.ret .none)) { s with heap := hp.update a (Obj.mapSeq fun _ => out) } := fun out _ q => by
    unfold sortedHeap at q
    rw [hhp] at q
    exact q
  by_cases h2 : vs.toArray.size < 2
  · rw [if_pos h2, if_pos h2]
    refine wpAny_bind (wpAny_pure ?_)
    rw [StateT.run_pure]
    refine wpAny_bind (wpAny_pure ?_)
    dsimp only
    refine wpAny_bind (seqEpoch_at ho6 rfl ?_)
    have em : (pairsOf vs).map (·.2) = vs.toArray := by
      apply Array.toList_inj.mp
      rw [Array.toList_map, pairsOf_toList]
      exact List.map_snd_zip (by simp)
    refine wpAny_bind (listUpdate_at ho6 rfl ?_ (by simp) (by show ((pairsOf vs).map (·.2)).size ≤ sizeLine + 1; rw [em]; simp; (clear h2 hsz ha; omega)))
    simp only [bne_self_eq_false, Bool.false_eq_true, if_false]
    refine wpAny_pure ?_
    show P _ { s with heap := hp.update a (Obj.mapSeq fun _ => (pairsOf vs).map (·.2)) }
    rw [em]
    refine fin _ hsz (h vs (List.Perm.refl _) ?_)
    match vs, h2 with
    | [], _ => exact List.Pairwise.nil
    | [_], _ => exact List.pairwise_singleton _ _
    | _ :: _ :: _, h2 => simp at h2; (clear hsz ha hz; omega)
  · rw [if_neg h2, if_neg h2]
    have h2' : 2 ≤ vs.length := by (clear ha hz; omega)
    refine wpAny_bind (hK h2' A _ _ _ hst ?_)
    have O := hO A E { s with heap := hp } hst
    refine wpAny_bind (wpAny_mono (wpS_sortAll O (a₀ := pairsOf vs) (fun x hx => ?_) (st := SortSt.mk' kd (vs.toArray.zip vs.toArray) #[] 7 none)
      (Q := fun _ st' => (arrOf st').Perm (pairsOf vs) ∧ failedOf st' = none ∧ Srt R (arrOf st') 0 (pairsOf vs).size) (Array.Perm.refl _) rfl rfl rfl (by rw [pairsOf_size]; exact h2') fun st' a1 a2 a3 => ⟨a1, a2, a3⟩) ?_ fun _ _ e => e)
    · obtain ⟨q1, q2⟩ := pairs_mem hx
      have : x = (x.2, x.2) := Prod.ext q1 rfl
      rw [this]; exact hOk h2' _ q2
    · rintro ⟨⟨⟩, st'⟩ s' ⟨rfl, hp', hf, hs⟩
      dsimp only
      have zp : ((arrOf st').map (·.2)).size = vs.length := by rw [Array.size_map, hp'.size_eq, pairsOf_size]
      refine wpAny_bind (seqEpoch_at ho6 rfl ?_)
      refine wpAny_bind (listUpdate_at ho6 rfl ?_ (by simp) (by show ((arrOf st').map (·.2)).size ≤ sizeLine + 1; (clear h2' h2 hsz ha; omega)))
      rw [hf]
      simp only [bne_self_eq_false, Bool.false_eq_true, if_false]
      refine wpAny_pure (fin _ zp ?_)
      have perm : (((arrOf st').map (·.2)).toList).Perm vs := by
        rw [Array.toList_map]
        have := (Array.perm_iff_toList_perm.mp hp').map (fun x : Keyed => x.2)
        rw [pairsOf_toList, List.map_snd_zip (by simp)] at this
        exact this
      have := h ((arrOf st').map (·.2)).toList perm ?_
      · rwa [Array.toArray_toList] at this
      · rw [List.pairwise_iff_getElem]
        intro i j hi hj hij
        have li : i < (arrOf st').size := by simpa using hi
        have lj : j < (arrOf st').size := by simpa using hj
        have q := hs i j (Nat.zero_le _) (by (clear lj li hj hi zp h2' h2 hsz ha hz; omega)) (by rw [← hp'.size_eq]; exact lj)
        have gi : ∀ {t : Nat} (ht : t < (arrOf st').size) (ht' : t < ((arrOf st').map (·.2)).toList.length), g (arrOf st') t = (((arrOf st').map (·.2)).toList[t], ((arrOf st').map (·.2)).toList[t]) := fun {t} ht ht' => by
          have m : g (arrOf st') t ∈ (arrOf st').toList := List.mem_of_getElem? (g_list ht)
          obtain ⟨q1, _⟩ := pairs_mem ((Array.perm_iff_toList_perm.mp hp').mem_iff.mp m)
          have e2 : ((arrOf st').map (·.2)).toList[t]? = some (g (arrOf st') t).2 := by
            rw [Array.toList_map, List.getElem?_map, g_list ht]; rfl
          rw [List.getElem?_eq_getElem ht'] at e2
          rw [Option.some.inj e2]
          exact Prod.ext q1 rfl
        rw [gi li hi, gi lj hj] at q
        exact q
theorem call_sorted_seq {l : Addr} {T : String} {o : Obj} {vs : List Value} {n : Nat} {Q : Value → Shared → Prop} (hT : T = "list" ∨ T = "tuple") (ho : s.heap.get? l = some o) (hc : o.cls = .type T) (hd : o.data = .seq vs.toArray n) (hz : vs.length ≤ sizeLine)
    (hH : ∀ s' : Shared, (∀ b o, s.heap.get? b = some o → s'.heap.get? b = some o) → Hs s') (hO : OrdAll prog w Hs kd Ok R) (hOk : 2 ≤ vs.length → ∀ v ∈ vs, Ok (v, v))
    (hK : 2 ≤ vs.length → ∀ (A : Around) (E : Value → Shared → Prop) (s' : Shared) (Q : SortKind → Shared → Prop), Hs s' → Q kd s' → wpAny (model prog w) A (keyKind' vs.toArray) Q E s')
    (h : ∀ (out : List Value) (h1 h' : Heap) (e : Nat), out.Perm vs → out.Pairwise (fun u v => le R (u, u) (v, v)) → (∀ b o, s.heap.get? b = some o → h1.get? b = some o) → (∀ b o, h1.get? b = some o → h'.get? b = some o) →
      h'.get? h1.objs.size = some { cls := .type "list", data := .seq out.toArray e } → Q (.ref h1.objs.size) { s with heap := h' }) :
    wpAny (model prog w) A (call (.builtin "sorted") [.ref l]) Q E s := by
  refine Calls.call_function_entry kind_sorted plain_sorted entry_sorted (args_sorted1 _) ?_
  unfold Builtin.«sorted»
  refine wpAny_bind (m := checkCount "sorted" 1 1 _) (wpAny_pure ?_)
  refine wpAny_bind (wpAny_collect_seq l hT ho hc hd (fun h1 k1 => ?_) (by simpa using hz))
  refine wpAny_bind (wpAny_newList ?_ (by simpa using hz))
  have hoL : (h1.push (seqObj "list" vs.toArray 0)).get? h1.objs.size = some (seqObj "list" vs.toArray 0) := Heap.get?_push_size _ rfl
  have hne : ∀ {b : Addr} {o : Obj}, h1.get? b = some o → b ≠ h1.objs.size := fun e => Nat.ne_of_lt (Heap.lt_size e)
  refine wpAny_bind (wpAny_holding (wpAny_call_entry slot_list_sort ⟨_, hoL, rfl⟩ entry_list_sort (list_sort_any (Hs := Hs) hoL hz (fun s' k => hH s' fun b o e => k b o (hne (k1 b o e)) (Heap.get?_push_of_some _ (k1 b o e))) hO hOk hK fun out q1 q2 => ⟨_, rfl, ?_⟩) (args_list_sort _)))
  refine wpAny_pure ⟨_, rfl, ?_⟩
  obtain ⟨e, he⟩ := sortedHeap_at (out := out.toArray) hoL
  exact h out h1 _ e q1 q2 k1 (fun b o eb => by
    rw [sortedHeap_old (hne eb) (by rw [Heap.size_push]; exact Nat.lt_succ_of_lt (Heap.lt_size eb))]
    exact Heap.get?_push_of_some _ eb) he
end
end Tim

namespace Tim
open PySem PyProof.Rows
section
variable {prog : Program} {w : World}
theorem ord_int : OrdAll prog w (fun _ => True) oneType' (fun x => ∃ n t, x.1 = .int n t) (fun x y => decide (numOf x.1 < numOf y.1)) := fun A E s _ => {
  lt := fun {x y st Q} hx hy hk h => by
    obtain ⟨a, t, ha⟩ := hx
    obtain ⟨c, u, hc⟩ := hy
    rw [lt'_eq]
    refine wpS_bind (wpS_get ?_)
    rw [ha, hc] at h ⊢
    rw [hk, keyLt'_oneType]
    exact wpS_bind (wpS_lift (wpAny_attempt (oneLt_int ⟨rfl, wpS_pure h⟩)))
  asymm := fun x y h => by
    have h' : numOf x.1 < numOf y.1 := by simpa using h
    exact decide_eq_false (by omega)
  neg := fun x y z h => by
    have h' : numOf x.1 < numOf z.1 := by simpa using h
    by_cases q : numOf x.1 < numOf y.1
    · exact .inl (by simpa using q)
    · exact .inr (by simp; omega) }
theorem lex_asymm : ∀ a c : List Int, HT.lexLt a c = true → HT.lexLt c a = false
  | [], [], h => by cases h
  | [], _ :: _, _ => rfl
  | _ :: _, [], h => by cases h
  | x :: xs, y :: ys, h => by
    rw [HT.lexLt_cons] at h ⊢
    by_cases e : x = y
    · rw [if_pos e] at h
      rw [if_pos e.symm]
      exact lex_asymm xs ys h
    · rw [if_neg e] at h
      rw [if_neg (Ne.symm e)]
      have h' : x < y := by simpa using h
      exact decide_eq_false (by omega)
theorem lex_neg : ∀ a b c : List Int, HT.lexLt a c = true → HT.lexLt a b = true ∨ HT.lexLt b c = true
  | [], b, [], h => by cases h
  | [], [], _ :: _, h => .inr h
  | [], _ :: _, _ :: _, _ => .inl rfl
  | _ :: _, b, [], h => by cases h
  | x :: xs, [], z :: zs, _ => .inr rfl
  | x :: xs, y :: ys, z :: zs, h => by
    rw [HT.lexLt_cons] at h ⊢
    rw [HT.lexLt_cons]
    by_cases e : x = z
    · subst e
      rw [if_pos rfl] at h
      by_cases q : x = y
      · subst q
        rw [if_pos rfl, if_pos rfl]
        exact lex_neg xs ys zs h
      · rw [if_neg q, if_neg (Ne.symm q)]
        by_cases g : x < y
        · exact .inl (by simpa using g)
        · exact .inr (by simp; omega)
    · rw [if_neg e] at h
      have h' : x < z := by simpa using h
      by_cases q : x = y
      · subst q
        right
        rw [if_neg e]; exact h
      · rw [if_neg q]
        by_cases g : x < y
        · exact .inl (by simpa using g)
        · right
          rw [if_neg (by omega)]
          simp; omega
noncomputable def intsIn (h : Heap) : Value → List Int
  | .ref a => match h.get? a with
    | some o => match o.data with
      | .seq xs _ => xs.toList.map numOf
      | _ => []
    | none => []
  | _ => []
noncomputable def TupIn (h : Heap) (v : Value) : Prop := ∃ a o xs n, v = .ref a ∧ h.get? a = some o ∧ o.cls = .type "tuple" ∧ o.data = .seq xs n ∧ (∀ x ∈ xs.toList, ∃ i t, x = .int i t) ∧ 0 < xs.size
theorem kat_ints {A : Around} {s : Shared} {fin b : Bool} {Q : Bool → Shared → Prop} : ∀ (xs ys : List Value) (i : Nat), (∀ x ∈ xs, ∃ i t, x = Value.int i t) → (∀ y ∈ ys, ∃ i t, y = Value.int i t) → xs.length ≤ ys.length ∨ ys.length ≤ xs.length →
    fin = decide (xs.length < ys.length) → Q (HT.lexLt (xs.map numOf) (ys.map numOf)) s → PySem.W.KatLex prog w A b fin Q (xs.zip ys) i s
  | [], [], i, _, _, _, e, h => by
    subst e
    exact h
  | [], _ :: _, i, _, _, _, e, h => by
    subst e
    exact h
  | _ :: _, [], i, _, _, _, e, h => by
    subst e
    exact h
  | x :: xs, y :: ys, i, hx, hy, hl, e, h => by
    obtain ⟨a, t, rfl⟩ := hx x List.mem_cons_self
    obtain ⟨c, u, rfl⟩ := hy y List.mem_cons_self
    have h' : Q (if a = c then HT.lexLt (xs.map numOf) (ys.map numOf) else decide (a < c)) s := h
    rw [List.zip_cons_cons]
    refine PySem.W.kat_cons (SeqAt.EqAt.int_int a t c u prog w _ _ ?_)
    by_cases q : a = c
    · have e1 : (a == c) = true := by simpa using q
      rw [e1]
      rw [if_pos q] at h'
      refine PySem.W.kat_yes (kat_ints xs ys (i + 1) (fun z hz => hx z (List.mem_cons_of_mem _ hz)) (fun z hz => hy z (List.mem_cons_of_mem _ hz)) (by simpa using hl) ?_ h')
      rw [e]; simp
    · have e1 : (a == c) = false := by simpa using q
      rw [e1]
      rw [if_neg q] at h'
      refine PySem.W.kat_no ?_
      cases (b && i == 0) with
      | true => exact oneLt_int h'
      | false =>
        refine PySem.W.kat_one _ _ ?_
        exact lt_int h'
theorem ord_tup {h₀ : Heap} : OrdAll prog w (fun s => ∀ b o, h₀.get? b = some o → s.heap.get? b = some o) (tuples' true) (fun x => TupIn h₀ x.1) (fun x y => HT.lexLt (intsIn h₀ x.1) (intsIn h₀ y.1)) := fun A E s hs => {
  lt := fun {x y st Q} hx hy hk h => by
    obtain ⟨a, oa, xs, n, ea, ha, ca, da, ia, _⟩ := hx
    obtain ⟨c, oc, ys, m, ec, hc, cc, dc, ic, _⟩ := hy
    rw [lt'_eq]
    refine wpS_bind (wpS_get ?_)
    have h' : Q (some (HT.lexLt (xs.toList.map numOf) (ys.toList.map numOf))) st := by
      have e1 : intsIn h₀ x.1 = xs.toList.map numOf := by rw [ea]; simp only [intsIn, ha, da]
      have e2 : intsIn h₀ y.1 = ys.toList.map numOf := by rw [ec]; simp only [intsIn, hc, dc]
      rw [e1, e2] at h; exact h
    rw [hk, ea, ec]
    refine wpS_bind (wpS_lift (wpAny_attempt (PySem.W.kat_lt (hs _ _ ha) da (hs _ _ hc) dc ?_)))
    exact kat_ints _ _ 0 ia ic (Nat.le_total _ _) (by simp) ⟨rfl, wpS_pure h'⟩
  asymm := fun x y h => lex_asymm _ _ h
  neg := fun x y z h => lex_neg _ _ _ h }
end
end Tim

namespace L2
open PySem PySem.Spec PyProof.Rows
theorem ints_vals : ∀ {vs : List Value} {ns : List Int}, Vals (ns.map V.int) vs → IntsAre vs ns
  | [], [], _ => .nil
  | _ :: _, n :: ns, .cons r t => by
    obtain ⟨k, rfl⟩ := r
    exact .cons n k (ints_vals t)
theorem ints_num {vs : List Value} {ns : List Int} (h : IntsAre vs ns) : ns = vs.map numOf := by
  induction h with
  | nil => rfl
  | cons n t _ ih => rw [List.map_cons, ← ih]; rfl
theorem vals_num : ∀ {vs : List Value}, (∀ v ∈ vs, ∃ n t, v = Value.int n t) → Vals ((vs.map numOf).map V.int) vs
  | [], _ => .nil
  | v :: vs, h => by
    obtain ⟨n, t, rfl⟩ := h v List.mem_cons_self
    exact .cons ⟨t, rfl⟩ (vals_num fun z hz => h z (List.mem_cons_of_mem _ hz))
theorem ints_all {vs : List Value} {ns : List Int} (h : IntsAre vs ns) : ∀ v ∈ vs, ∃ n t, v = Value.int n t := by
  induction h with
  | nil => intro v hv; cases hv
  | cons n t _ ih =>
    intro v hv
    rcases List.mem_cons.mp hv with rfl | hv
    · exact ⟨n, t, rfl⟩
    · exact ih v hv
section
variable {X : Cx}
noncomputable def TupsAt (K : PySem.W.Frag) (H : Hp) (as : List Addr) (F : List (List Int)) : Prop := Paired (fun a xs => SqT K H a (xs.map V.int)) as F
theorem call_sortedT : CallR X (.builtin "sorted") (fun xs H Q => ∃ (p : Addr) (as : List Addr) (F : List (List Int)), xs = [.ref p] ∧ SqL X.K H p (as.map V.ref) ∧ TupsAt X.K H as F ∧ (∀ x ∈ F, x ≠ []) ∧
    ∀ (l : Addr) (bs : List Addr) (G : List (List Int)), H l = none → TupsAt X.K H bs G → (bs.zip G).Perm (as.zip F) → G.Pairwise (fun x y => HT.lexLt y x = false) → Q (.ref l) (upd H l (.lst (bs.map V.ref)))) := by
  intro pins s σ H xs us Q I r h
  obtain ⟨p, as, F, rfl, hq, ht, hne, q⟩ := h
  obtain ⟨u, rfl, rx⟩ := r.one
  cases rx
  obtain ⟨its, rv, ⟨o, n, ho, hc, _, hd⟩, hz⟩ := I.list hq
  have hits : its = as.map Value.ref := by
    clear hq ht q ho hc hd hz
    revert its
    induction as with
    | nil => intro its rv; cases rv; rfl
    | cons a as ih => intro its rv; cases rv with | cons r t => rw [show _ = Value.ref a from r, ih _ t]; rfl
  have tup : ∀ {a : Addr} {xs : List Int}, SqT X.K H a (xs.map V.int) → xs ≠ [] → Tim.TupIn s.heap (.ref a) ∧ Tim.intsIn s.heap (.ref a) = xs := fun {a xs} hx hn => by
    obtain ⟨ts, rt, ⟨o, ho, hc, n, hd⟩, _⟩ := I.tuple hx
    have hi := ints_vals rt
    refine ⟨⟨a, o, ts.toArray, n, rfl, ho, hc, hd, ints_all hi, ?_⟩, ?_⟩
    · rw [List.size_toArray, ← rt.length, List.length_map]
      exact List.length_pos_iff.mpr hn
    · show (match s.heap.get? a with | some o => _ | none => _) = xs
      rw [ho]
      simp only [hd]
      exact (ints_num hi).symm
  have pairAll : ∀ {as : List Addr} {F : List (List Int)}, TupsAt X.K H as F → (∀ x ∈ F, x ≠ []) → (∀ a ∈ as, Tim.TupIn s.heap (.ref a)) ∧ F = as.map (fun a => Tim.intsIn s.heap (.ref a)) := by
    intro as F h
    induction h with
    | nil => intro _; exact ⟨(fun _ h => nomatch h), rfl⟩
    | cons r t ih =>
      intro hn
      obtain ⟨i1, i2⟩ := ih fun x hx => hn x (List.mem_cons_of_mem _ hx)
      obtain ⟨t1, t2⟩ := tup r (hn _ List.mem_cons_self)
      refine ⟨fun a ha => ?_, ?_⟩
      · rcases List.mem_cons.mp ha with rfl | ha
        · exact t1
        · exact i1 a ha
      · rw [List.map_cons, t2, ← i2]
  obtain ⟨hT, hF⟩ := pairAll ht hne
  have hz' : its.length ≤ sizeLine := by rw [← rv.length]; exact hz
  refine Tim.call_sorted_seq (.inl rfl) ho hc hd hz' (fun _ k => k) (Tim.ord_tup (h₀ := s.heap)) (fun _ v hv => ?_) (fun h2 A E s' Q' hs' hq' => ?_) fun out h1 h2 e hp hs k1 k2 hD => ?_
  · rw [hits] at hv
    obtain ⟨a, ha, rfl⟩ := List.mem_map.mp hv
    exact hT a ha
  · have kt : ∀ (l : List Addr), (∀ a ∈ l, Tim.TupIn s.heap (.ref a)) → ∃ fs, PySem.W.KatTups s'.heap (l.map Value.ref) fs ∧ fs.length = l.length ∧ ∀ f ∈ fs, ∃ i t, f = Value.int i t := by
      intro l
      induction l with
      | nil => intro _; exact ⟨[], trivial, rfl, (fun _ h => nomatch h)⟩
      | cons a l ih =>
        intro hl
        obtain ⟨fs, f1, f2, f3⟩ := ih fun b hb => hl b (List.mem_cons_of_mem _ hb)
        obtain ⟨a', o, xs, n, ea, ha, ca, da, ia, hpos⟩ := hl a List.mem_cons_self
        cases ea
        refine ⟨xs[0] :: fs, ⟨⟨a, o, xs, n, rfl, hs' _ _ ha, ca, da, by rw [Array.getElem?_eq_getElem hpos]⟩, f1⟩, by simp [f2], fun f hf => ?_⟩
        rcases List.mem_cons.mp hf with rfl | hf
        · exact ia _ (by simp)
        · exact f3 f hf
    obtain ⟨fs, f1, f2, f3⟩ := kt as hT
    rw [hits]
    refine PySem.W.kat_kind (T := .type "int") f1 (by rw [f2]; rw [hits] at h2; simp at h2; omega) (fun v hv => ?_) rfl hq'
    obtain ⟨i, t, rfl⟩ := f3 v hv
    exact .now
  · rw [hits] at hp
    obtain ⟨bs, rfl, hb⟩ : ∃ bs : List Addr, out = bs.map Value.ref ∧ bs.Perm as := by
      have : ∀ (l : List Value) (m : List Addr), l.Perm (m.map Value.ref) → ∃ bs : List Addr, l = bs.map Value.ref ∧ bs.Perm m := by
        intro l m hl
        let f : Value → Addr := fun v => match v with | .ref a => a | _ => 0
        have hall : ∀ v ∈ l, ∃ a, v = Value.ref a := fun v hv => by
          obtain ⟨a, _, e⟩ := List.mem_map.mp (hl.mem_iff.mp hv)
          exact ⟨a, e.symm⟩
        refine ⟨l.map f, ?_, ?_⟩
        · rw [List.map_map]
          have : ∀ v ∈ l, (Value.ref ∘ f) v = v := fun v hv => by obtain ⟨a, rfl⟩ := hall v hv; rfl
          exact (List.map_congr_left this |>.trans (List.map_id' l)).symm
        · have := hl.map f
          rw [List.map_map] at this
          have e2 : m.map (f ∘ Value.ref) = m := List.map_id'' (fun _ => rfl) m
          rwa [e2] at this
      exact this out as hp
    have I1 : Inv X pins σ H { s with heap := h1 } := I.kept (t' := s.toks) k1
    have rb : Vals (bs.map V.ref) (bs.map Value.ref) := by
      clear hb hs hp k1 k2 hD q
      induction bs with
      | nil => exact .nil
      | cons b bs ih => exact .cons rfl ih
    have hlen : (bs.map V.ref).length ≤ sizeLine := by rw [List.length_map, hb.length_eq]; simpa using hz
    have I2 : Inv X pins σ (upd H h1.objs.size (.lst (bs.map V.ref))) { s with heap := h2 } := I1.laid (t' := s.toks) k2 (Nat.le_refl _) ⟨hlen, _, e, rb, hD⟩
    refine ⟨.ref h1.objs.size, _, I2, rfl, q _ bs (bs.map fun a => Tim.intsIn s.heap (.ref a)) (I1.hok.fresh (Nat.le_refl _)) ?_ ?_ ?_⟩
    · -- each is a tuple with these ints
      have look : ∀ a ∈ as, SqT X.K H a ((Tim.intsIn s.heap (.ref a)).map V.int) := by
        clear q hb rb hlen I2 hp hs hits hq rv hz
        revert hT hF
        induction ht with
        | nil => intro _ _ a ha; cases ha
        | cons r t ih =>
          intro hT hF a ha
          have hF' := List.cons.inj hF
          rcases List.mem_cons.mp ha with rfl | ha
          · have e5 : _ = Tim.intsIn s.heap (.ref _) := hF'.1
            rw [← e5]; exact r
          · exact ih (fun x hx => hne x (List.mem_cons_of_mem _ hx)) (fun b hb => hT b (List.mem_cons_of_mem _ hb)) hF'.2 a ha
      have all : ∀ l : List Addr, (∀ a ∈ l, a ∈ as) → TupsAt X.K H l (l.map fun a => Tim.intsIn s.heap (.ref a)) := by
        intro l
        induction l with
        | nil => intro _; exact .nil
        | cons a l ih => intro hl; exact .cons (look a (hl a List.mem_cons_self)) (ih fun b hb => hl b (List.mem_cons_of_mem _ hb))
      exact all bs fun a ha => hb.mem_iff.mp ha
    · rw [hF]
      have e1 : ∀ l : List Addr, l.zip (l.map fun a => Tim.intsIn s.heap (.ref a)) = l.map fun a => (a, Tim.intsIn s.heap (.ref a)) := by
        intro l
        induction l with
        | nil => rfl
        | cons a l ih => rw [List.map_cons, List.zip_cons_cons, ih, List.map_cons]
      rw [e1, e1]
      exact hb.map _
    · rw [List.pairwise_map] at hs ⊢
      exact hs
end
end L2

namespace L2
open PySem PySem.Spec PyProof.Rows
section
variable {X : Cx} {pins : List (Addr × Obj)} {σ : St} {H : Hp} {s : Shared} {h2 : Heap}
end
end L2

namespace Enu
open PySem PyProof.Rows
section
variable {prog : Program} {w : World} {A : Around} {E : Value → Shared → Prop} {s : Shared} {D : Addr} {fp wr : List Addr} {G : Array GenState → Array GenState → Prop} {n : Nat} {P : Nat → Value → Prop} {St : Nat → Shared → Prop}
end
end Enu

namespace L2
open PySem PySem.Spec PyProof.Rows
theorem vals_rev {vs : List V} {us : List Value} (h : Vals vs us) : Vals vs.reverse us.reverse := by
  have app : ∀ {a : List V} {b : List Value} {c : List V} {d : List Value}, Vals a b → Vals c d → Vals (a ++ c) (b ++ d) := by
    intro a b c d h1 h2
    induction h1 with
    | nil => exact h2
    | cons r t ih => exact .cons r ih
  induction h with
  | nil => exact .nil
  | cons r t ih => rw [List.reverse_cons, List.reverse_cons]; exact app ih (.cons r .nil)
section
variable {X : Cx} {e : Expr} {te : TE} {p q pos pos2 : Pos}
end
end L2

namespace Enu
open PySem PySem.Spec PyProof.Rows
section
variable {prog : Program} {w : World} {A : Around} {E : Value → Shared → Prop} {s : Shared}
end
end Enu

namespace L2
open PySem PySem.Spec PyProof.Rows
section
variable {X : Cx}
end
end L2

namespace L2
open PySem
theorem comps_by {own : List Str} {ix : List Nat} {g : TG} {te : TE} {σ : St} {J : It} {H1 : Hp} {D : Addr} {Q : Hp → Prop} (n : Nat) (Pv : Nat → Hp → Prop) (h0 : Pv 0 (upd H1 D (.lst [])))
    (hd : ∀ Hi, Pv n Hi → J.stop n Hi ∧ Q Hi)
    (hs : ∀ i Hi, i < n → Pv i Hi → J.go i Hi ∧ ∀ x H', J.yld i Hi x H' → g x (inS own ix σ) H' fun σ2 H2 => tYes σ2 H2 fun b H3 => if b = true then te σ2 H3 fun v H4 => ∃ ys, H4 D = some (.lst ys) ∧ ys.length < sizeLine ∧
      ∃ m', m' < n - i ∧ (m' = n - (i + 1) ∧ i + 1 ≤ n ∧ Pv (i + 1) (upd H4 D (.lst (ys ++ [v])))) else ∃ m', m' < n - i ∧ (m' = n - (i + 1) ∧ i + 1 ≤ n ∧ Pv (i + 1) H3)) : Comps own ix g tYes te σ J H1 D Q := by
  refine ⟨fun i m Hi => m = n - i ∧ i ≤ n ∧ Pv i Hi, ⟨n, by simp, Nat.zero_le _, h0⟩, ?_⟩
  rintro i m Hi ⟨rfl, hi, p⟩
  by_cases q : i < n
  · exact .inr (hs i Hi q p)
  · have e : i = n := by omega
    subst e
    exact .inl (hd Hi p)
end L2
namespace L2
open PySem
theorem Same.sqT {K : PySem.W.Frag} {H H' : Hp} {a : Addr} {xs : List V} (e : Same H H') (h : SqT K H a xs) : SqT K H' a xs := by
  rcases h with (h | ⟨o, h⟩) | h
  · exact .inl (.inl (e _ _ h))
  · exact .inl (.inr ⟨o, e _ _ h⟩)
  · exact .inr h
end L2
namespace L2
theorem yes_go {σ : St} {H : Hp} {A B : Hp → Prop} (h : A H) : tYes σ H (fun b H3 => if b = true then A H3 else B H3) := iteT (A := A H) (B := B H) h
end L2

namespace Rvt
open PySem PyProof.Rows
theorem slot_init : Slot "reversed" "__init__" "object.__init__" :=
  .of (owner := "object") (n := "__init__") (by rw [typeLookup_type, builtinLookup_eq_fast]; kernel_rfl) (by decide +kernel) (by decide +kernel) (by decide +kernel) (by first | exact .inl (by decide +kernel) | exact .inr (by decide +kernel)) (by rw [isSubtype_type]; kernel_rfl)
theorem slot_next : Slot "reversed" "__next__" "reversed.__next__" :=
  .of (owner := "reversed") (n := "__next__") (by rw [typeLookup_type, builtinLookup_eq_fast]; kernel_rfl) (by decide +kernel) (by decide +kernel) (by decide +kernel) (by first | exact .inl (by decide +kernel) | exact .inr (by decide +kernel)) (by rw [isSubtype_type]; kernel_rfl)
theorem slot_iter : Slot "reversed" "__iter__" "reversed.__iter__" :=
  .of (owner := "reversed") (n := "__iter__") (by rw [typeLookup_type, builtinLookup_eq_fast]; kernel_rfl) (by decide +kernel) (by decide +kernel) (by decide +kernel) (by first | exact .inl (by decide +kernel) | exact .inr (by decide +kernel)) (by rw [isSubtype_type]; kernel_rfl)
theorem slot_hint : Slot "reversed" "__length_hint__" "reversed.__length_hint__" :=
  .of (owner := "reversed") (n := "__length_hint__") (by rw [typeLookup_type, builtinLookup_eq_fast]; kernel_rfl) (by decide +kernel) (by decide +kernel) (by decide +kernel) (by first | exact .inl (by decide +kernel) | exact .inr (by decide +kernel)) (by rw [isSubtype_type]; kernel_rfl)
theorem entry_next : entryFor table "reversed.__next__" = some Builtin.«reversed.__next__» := entryFor_of_tree (by kernel_rfl)
theorem entry_hint : entryFor table "reversed.__length_hint__" = some Builtin.«reversed.__length_hint__» := entryFor_of_tree (by kernel_rfl)
theorem entry_iter : entryFor table "reversed.__iter__" = some Builtin.«dict_keyiterator.__iter__» :=
  entryFor_alias (id' := "dict_keyiterator.__iter__") (by kernel_rfl) (by first | rfl | decide +kernel | (unfold String.splitOn; simp +decide [String.splitOnAux])) (by decide +kernel) (by kernel_rfl)
theorem args_next (a : Value) : argsOk "reversed.__next__" ⟨[a], []⟩ := by unfold argsOk; kernel_rfl
theorem args_hint (a : Value) : argsOk "reversed.__length_hint__" ⟨[a], []⟩ := by unfold argsOk; kernel_rfl
theorem args_iter (a : Value) : argsOk "reversed.__iter__" ⟨[a], []⟩ := by unfold argsOk; kernel_rfl
theorem called : TypeCalled "reversed" "reversed.__new__" "object.__init__" :=
  ⟨by decide +kernel, F.create_reversed, ⟨_, _, F.mro_reversed⟩, F.made_reversed, F.plain_reversed_new, F.sub_reversed_self, slot_init⟩
theorem no_rev : typeLookup (.type "tuple") "__reversed__" = pure none := by rw [typeLookup_type, builtinLookup_eq_fast]; kernel_rfl
theorem nolen : typeLookup (.type "reversed") "__len__" = pure none := by rw [typeLookup_type, builtinLookup_eq_fast]; kernel_rfl
theorem sub_dict : isSubtype (.type "tuple") (.type "dict") = pure false := by rw [isSubtype_type]; kernel_rfl
noncomputable def rvObj (l : Addr) (i : Int) : Obj := { cls := .type "reversed", data := .fields #[.ref l, rawInt i] }
noncomputable def IsRv (h : Heap) (a l : Addr) (i : Int) : Prop := ∃ o, h.get? a = some o ∧ o.cls = .type "reversed" ∧ o.data = .fields #[.ref l, rawInt i]
theorem IsRv.ty {s : Shared} {a l : Addr} {i : Int} (x : IsRv s.heap a l i) : s.TypeIs (.ref a) "reversed" := let ⟨o, ho, hc, _⟩ := x; ⟨o, ho, hc⟩
end Rvt

namespace Rvt
open PySem PyProof.Rows
section
variable {prog : Program} {w : World} {A : Around} {E : Value → Shared → Prop} {s : Shared}
theorem new_code {t : Addr} {its : Array Value} {Q : Value → Shared → Prop} (hl : s.heap.IsTuple t its) (hz : its.size ≤ sizeLine)
    (h : ∀ tk, s.toks ≤ tk → Q (.ref s.heap.objs.size) { s with heap := s.heap.push (rvObj t ((its.size : Int) - 1)), toks := tk }) :
    codeAny (model prog w) A (.call (.builtin "reversed.__new__") ⟨[.type "reversed", .ref t], []⟩) (wants Q E) s := by
  refine codeAny_of_tree ?_
  show wpAny (model prog w) A.in1 (do checkBuiltinCall "reversed.__new__" ⟨[.type "reversed", .ref t], []⟩; again (.builtin "reversed.__new__" ⟨[.type "reversed", .ref t], []⟩)) _ _ s
  refine wpAny_bind (wpAny_of_eq (F.newCall_reversed_1 _) (wpAny_pure ⟨plainId_quiet F.plain_reversed_new _, codeAny_builtin F.entry_reversed_new ?_⟩))
  rw [Around.under_plainId F.plain_reversed_new _]
  unfold Builtin.«reversed.__new__»
  refine wpAny_bind (wpAny_of_eq (newClass_reversed _) ?_)
  try dsimp only
  refine wpAny_bind (wpAny_of_eq (a := ()) (by first | rfl | kernel_rfl) ?_)
  refine wpAny_bind (wpAny_of_eq (a := ()) (by first | rfl | kernel_rfl) ?_)
  try dsimp only
  refine wpAny_bind (wpAny_specialOf hl.typeIs no_rev ?_)
  try dsimp only
  have hT := hl.typeIs
  have f1 := sub_dict
  have f2 := F.slot_tuple_getitem.lookup
  refine wpAny_bind ?_
  k_delta "hasItemSlot"
  refine wpAny_bind (wpAny_isInstance hT f1 ?_)
  rw [if_neg (by decide)]
  refine wpAny_bind (wpAny_specialOf hT f2 ?_)
  try dsimp only
  rw [if_pos (by decide)]
  refine wpAny_pure ?_
  rw [if_neg (by decide)]
  refine wpAny_bind (len_tuple (show IsTup s.heap t its from hl) (by have : its.size < 2 ^ 62 := Nat.lt_of_le_of_lt hz (by decide); omega) ?_)
  refine wpAny_bind (wpAny_pure ?_)
  try dsimp only
  unfold Builtin.SmallTypes.newRecord
  refine wpAny_bind (wpAny_newObj_type ?_)
  exact wpAny_pure (h _ (by show s.toks ≤ s.toks + 1 + 1; omega))
theorem call_rev {t : Addr} {its : Array Value} {Q : Value → Shared → Prop} (hl : s.heap.IsTuple t its) (hz : its.size ≤ sizeLine)
    (h : ∀ tk, s.toks ≤ tk → Q (.ref s.heap.objs.size) { s with heap := s.heap.push (rvObj t ((its.size : Int) - 1)), toks := tk }) : wpAny (model prog w) A (call (.type "reversed") [.ref t]) Q E s := by
  refine callType_codes (Q₁ := fun v s1 => s1.TypeIs v "reversed" ∧ Q v s1) called (F.typeCall_reversed_1 _) F.entry_object_init (new_code hl hz fun tk htk => ⟨⟨_, Heap.get?_push_size _ rfl, rfl⟩, h tk htk⟩) fun v s1 h1 => ?_
  exact ⟨h1.1, F.args_object_init_2 v _, object_init_meets called.init.lookup called.made (by decide) prog w A.in1 _ s1 ⟨h1.1, rfl, h1.2⟩⟩
theorem next_item {it t : Addr} {i : Nat} {its : Array Value} {x : Value} {Q : Option Value → Shared → Prop} (hit : IsRv s.heap it t (i : Int)) (hl : IsTup s.heap t its) (hx : its[i]? = some x) (hz : its.size ≤ sizeLine)
    (hQ : ∀ h2 tk, s.toks ≤ tk → IsRv h2 it t ((i : Int) - 1) → Heap.SameBut it s.heap h2 → Q (some x) { s with heap := h2, toks := tk }) : wpAny (model prog w) A (pyNext (.ref it)) Q E s := by
  obtain ⟨o, ho, hc, hd⟩ := id hit
  have hsz : i < its.size := (Array.getElem?_eq_some_iff.mp hx).1
  have hzz : its.size < 2 ^ 62 := Nat.lt_of_le_of_lt hz (by decide)
  unfold pyNext
  refine wpAny_bind (wpAny_attempt (wpAny_callSpecial?_slot (name := Str.ofString "__next__") hit.ty slot_next (wpAny_call_entry slot_next hit.ty entry_next ?_ (args_next _))))
  unfold Builtin.«reversed.__next__»
  refine wpAny_bind (wpAny_of_eq (a := (Value.ref it, [])) rfl ?_)
  try dsimp only
  refine wpAny_bind (wpAny_field ho hd (x := .ref t) rfl ?_)
  refine wpAny_bind (wpAny_field ho hd (x := rawInt (i : Int)) rfl ?_)
  show wpAny (model prog w) _ (if (i : Int) < 0 then _ else _) _ _ s
  rw [if_neg (by omega)]
  refine wpAny_bind (wpAny_specialOf hl.typeIs F.slot_tuple_getitem.lookup ?_)
  try dsimp only
  rw [if_neg (by decide)]
  refine wpAny_bind (wpAny_mkInt ?_)
  refine wpAny_bind (wpAny_attempt (getItem_tuple (s := { s with toks := s.toks + 1 }) hl (by omega) (by omega) (j := i) (by unfold seqIndex?; simp; omega) hx ?_))
  try dsimp only
  refine wpAny_bind (wpAny_field ho hd (x := rawInt (i : Int)) rfl ?_)
  show wpAny (model prog w) _ (setField (.ref it) 1 (rawInt ((i : Int) - 1)) >>= _) _ _ _
  refine wpAny_bind (wpAny_setField ho hd (by simp) (wpAny_pure ⟨x, rfl, wpAny_pure (hQ _ _ (by show s.toks ≤ s.toks + 1; omega) ?_ (Heap.SameBut.update ..))⟩))
  exact ⟨_, Heap.get?_update_self _ ho (Obj.isFreed_of_fields (Obj.data_mapFields hd _)), (Obj.cls_mapFields ..).trans hc, by rw [Obj.data_mapFields hd]; simp⟩
theorem next_end {it t : Addr} {Q : Option Value → Shared → Prop} (hh : A.handled = none) (hit : IsRv s.heap it t (-1)) (hQ : ∀ h2, Heap.ExtBut it s.heap h2 → Q none { s with heap := h2 }) : wpAny (model prog w) A (pyNext (.ref it)) Q E s := by
  obtain ⟨o, ho, hc, hd⟩ := id hit
  unfold pyNext
  refine wpAny_bind (wpAny_attempt (wpAny_callSpecial?_slot (name := Str.ofString "__next__") hit.ty slot_next (wpAny_call_entry slot_next hit.ty entry_next ?_ (args_next _))))
  unfold Builtin.«reversed.__next__»
  refine wpAny_bind (wpAny_of_eq (a := (Value.ref it, [])) rfl ?_)
  try dsimp only
  refine wpAny_bind (wpAny_field ho hd (x := .ref t) rfl ?_)
  refine wpAny_bind (wpAny_field ho hd (x := rawInt (-1)) rfl ?_)
  show wpAny (model prog w) _ (if (-1 : Int) < 0 then _ else _) _ _ s
  rw [if_pos (by decide)]
  refine wpAny_bind (wpAny_rule ?_)
  refine wpAny_bind ?_
  k_delta "reversedEnd"
  refine wpAny_bind (wpAny_setField ho hd (by simp) ?_)
  have hd2 := Obj.data_mapFields hd (·.setIfInBounds 1 (rawInt (-1)))
  have ho2 := Heap.get?_update_self (Obj.mapFields (·.setIfInBounds 1 (rawInt (-1)))) ho (Obj.isFreed_of_fields hd2)
  refine wpAny_setField ho2 hd2 (by simp) ?_
  refine wpAny_bind ?_
  unfold Builtin.SmallTypes.stopIteration
  first
  | show wpAny _ _ (newExc (.type "StopIteration") [] >>= _) _ _ _
  | skip
  refine wpAny_bind ?_
  simp only [newExc, newTuple]
  refine wpAny_bind (wpAny_newObj_type ?_ (by size_fits))
  refine wpAny_bind (m := firstArgMember _ _) (wpAny_of_eq (a := Value.none) (by first | rfl | (simp only [firstArgMember]; rfl)) ?_)
  refine wpAny_newObj_type ?_ (by size_fits)
  simp only [raiseNew]
  refine wpAny_bind (wpAny_handled ?_)
  first | rw [show A.in1.handled = none from hh] | rw [hh]
  refine wpAny_bind (wpAny_pure (wpAny_throw ?_))
  refine wpAny_bind (wpAny_isInstance (T := "StopIteration") (b := true) ⟨_, Heap.get?_push_size _ rfl, rfl⟩ isSubtype_stop ?_)
  refine wpAny_pure (hQ _ ((Heap.ExtBut.push ?_ _).push _))
  intro b o' hb e
  exact (Heap.get?_update_other _ _ (Ne.symm hb)).trans ((Heap.get?_update_other _ _ (Ne.symm hb)).trans e)
theorem self_iter {it t : Addr} {i : Int} {Q : Value → Shared → Prop} (hit : IsRv s.heap it t i) (h : Q (.ref it) s) : wpAny (model prog w) A (pyIter (.ref it)) Q E s := by
  refine wpAny_pyIter_slot hit.ty slot_iter (wpAny_call_entry slot_iter hit.ty entry_iter ?_ (args_iter _))
  show wpAny (model prog w) _ (ret (.ref it)) _ _ s
  exact wpAny_pure ⟨_, rfl, "reversed", _, hit.ty, slot_next.lookup, h⟩
end
theorem walks {prog : Program} {w : World} {A : Around} (hh : A.handled = none) (D t : Addr) (hne : t ≠ D) (its : Array Value) (hz : its.size ≤ sizeLine) :
    Walks prog w A D [D, t] [D] its.size (fun i v => its[its.size - 1 - i]? = some v) (fun i h => i ≤ its.size ∧ IsRv h D t ((its.size : Int) - 1 - (i : Int)) ∧ h.IsTuple t its) where
  sub := fun b hb => by simp at hb; simp [hb]
  frame := fun _ _ _ x hk => ⟨x.1, (let ⟨o, ho, r⟩ := x.2.1; ⟨o, hk D (by simp) o ho, r⟩), (let ⟨o, ho, r⟩ := x.2.2; ⟨o, hk t (by simp) o ho, r⟩)⟩
  item := fun i s Q E hi x hQ => by
    have e : (its.size : Int) - 1 - (i : Int) = ((its.size - 1 - i : Nat) : Int) := by omega
    have hit := x.2.1
    rw [e] at hit
    have hx : its[its.size - 1 - i]? = some (its[its.size - 1 - i]'(by omega)) := Array.getElem?_eq_getElem (by omega)
    refine next_item hit (show IsTup s.heap t its from x.2.2) hx hz fun h2 tk htk hit2 hs2 => ?_
    have e2 : ((its.size - 1 - i : Nat) : Int) - 1 = (its.size : Int) - 1 - ((i + 1 : Nat) : Int) := by omega
    rw [e2] at hit2
    exact hQ _ h2 tk hx ⟨hi, hit2, (let ⟨o, ho, r⟩ := x.2.2; ⟨o, (hs2.2 t hne).trans ho, r⟩)⟩ fun b o hb eo => hs2.extBut b o (fun h => hb (by simp [h])) eo
  done := fun s Q E x hQ => by
    have e : (its.size : Int) - 1 - (its.size : Int) = -1 := by omega
    have hit := x.2.1
    rw [e] at hit
    exact next_end hh hit fun h2 he2 => hQ h2 s.toks fun b o hb eo => he2 b o (fun h => hb (by simp [h])) eo
  self := fun _ _ _ _ x hQ => self_iter x.2.1 hQ
end Rvt

namespace Rvt
open PySem PyProof.Rows
section
variable {prog : Program} {w : World} {A : Around} {E : Value → Shared → Prop} {s : Shared}
theorem hint {D t : Addr} {its : Array Value} {Q : Value → Shared → Prop} (hit : IsRv s.heap D t ((its.size : Int) - 1)) (hl : IsTup s.heap t its) (hz : its.size ≤ sizeLine) (h : ∀ tk u, s.toks ≤ tk → Q (.int its.size u) { s with toks := tk }) :
    wpAny (model prog w) A (call (.builtin "reversed.__length_hint__") [.ref D]) Q E s := by
  obtain ⟨o, ho, hc, hd⟩ := id hit
  have hzz : its.size < 2 ^ 62 := Nat.lt_of_le_of_lt hz (by decide)
  refine wpAny_call_entry slot_hint hit.ty entry_hint ?_ (args_hint _)
  unfold Builtin.«reversed.__length_hint__»
  refine wpAny_bind (wpAny_of_eq (a := Value.ref D) rfl ?_)
  refine wpAny_bind (wpAny_field ho hd (x := .ref t) rfl ?_)
  rw [if_neg (show ¬ ((Value.ref t == Value.none) = true) from Bool.false_ne_true)]
  refine wpAny_bind (len_tuple hl (by omega) ?_)
  refine wpAny_bind (wpAny_pure ?_)
  try dsimp only
  refine wpAny_bind (wpAny_field ho hd (x := rawInt ((its.size : Int) - 1)) rfl ?_)
  show wpAny (model prog w) _ (if ((its.size : Nat) : Int) < ((its.size : Int) - 1) + 1 then _ else _) _ _ _
  rw [if_neg (by omega)]
  unfold retInt
  rw [show ((its.size : Int) - 1) + 1 = (its.size : Int) by omega]
  exact wpAny_bind (wpAny_mkInt (wpAny_pure ⟨_, rfl, h _ _ (by show s.toks ≤ s.toks + 1 + 1 + 1; omega)⟩))
variable {D : Addr} {fp wr : List Addr} {G : Array GenState → Array GenState → Prop} {n : Nat} {P : Nat → Value → Prop} {St : Nat → Shared → Prop}
theorem collect_rv {Q : List Value → Shared → Prop} (W : WalksS prog w A.in1 D fp wr G n P St) (hT : ∀ i s, St i s → s.TypeIs (.ref D) "reversed") (hst : St 0 s) (hfp : ∀ b ∈ fp, b < s.heap.objs.size) (hD : D ∈ fp)
    (hhint : ∀ (s1 : Shared) (Q' : Value → Shared → Prop) (E' : Value → Shared → Prop), St 0 s1 → (∀ tk u, s1.toks ≤ tk → Q' (.int n u) { s1 with toks := tk }) → wpAny (model prog w) A.in1 (call (.builtin "reversed.__length_hint__") [.ref D]) Q' E' s1)
    (hQ : ∀ s' acc, Moved wr G s s' → ItemsOf P acc n → Q acc.toList s') (hn : n ≤ sizeLine) : wpAny (model prog w) A (collect (.ref D)) Q E s := by
  have k1 : s.heap.objs.size ∉ fp := fun hm => Nat.lt_irrefl _ (hfp _ hm)
  have k2 : s.heap.objs.size ≠ D := fun e => k1 (e ▸ hD)
  have hzz : n < 2 ^ 62 := Nat.lt_of_le_of_lt hn (by decide)
  unfold collect
  refine wpAny_bind (wpAny_runValue (codeAny_builtin F.entry_proto_collect ?_))
  rw [Around.under_plainId F.plain_proto_collect _]
  show wpAny (model prog w) A.in1 (newList [] >>= fun l => again (.builtin "list.__iadd__" ⟨[l, .ref D], []⟩)) _ _ s
  refine wpAny_bind (wpAny_newObj_type ?_)
  refine wpAny_pure ⟨plainId_quiet F.plain_list_iadd _, codeAny_builtin F.entry_list_iadd ?_⟩
  rw [Around.under_plainId F.plain_list_iadd _]
  have st1 := W.frame 0 s (s.heap.push { cls := .type "list", data := .seq ([] : List Value).toArray }) s.toks hst (Nat.le_refl _) fun b _ o e => Heap.get?_push_of_some _ e
  have k3 : (s.heap.push { cls := .type "list", data := .seq ([] : List Value).toArray }).get? s.heap.objs.size = some { cls := .type "list", data := .seq ([] : List Value).toArray } := Heap.get?_push_size _ rfl
  have k4 : Builtin.List.listSameRef (.ref s.heap.objs.size) (.ref D) = false := by simp [Builtin.List.listSameRef, k2]
  show wpAny (model prog w) A.in1 (Builtin.List.listExtendWith (.ref s.heap.objs.size) (.ref D) (.ref s.heap.objs.size)) _ _ _
  unfold Builtin.List.listExtendWith
  refine wpAny_bind (wpAny_typeOf (hT 0 _ st1) ?_)
  rw [if_neg (by rw [k4]; decide)]
  refine wpAny_bind (W.self 0 _ _ _ st1 ?_)
  refine wpAny_bind (wpAny_holding ?_)
  unfold Builtin.List.listLengthHint
  refine wpAny_bind (wpAny_specialOf (hT 0 _ st1) nolen ?_)
  show wpAny (model prog w) A.in1 (specialOf (Value.ref D) (Str.ofString "__length_hint__") >>= _) _ _ _
  refine wpAny_bind (wpAny_specialOf (hT 0 _ st1) slot_hint.lookup ?_)
  generalize hid : ("reversed.__length_hint__" : String) = nm
  wp_delta
  rw [show splitId nm = some ("reversed", "__length_hint__") from by subst hid; decide +kernel]
  subst hid
  refine wpAny_bind (wpAny_isInstance (b := true) (hT 0 _ st1) (by rw [isSubtype_type]; kernel_rfl) ?_)
  rw [if_neg (by decide)]
  rw [if_neg (by decide +kernel)]
  refine wpAny_bind (wpAny_rule ?_)
  refine wpAny_bind (wpAny_of_eq (slot_hint.bind (.ref D)) ?_)
  refine wpAny_bind (wpAny_attempt (hhint _ _ _ st1 fun tk u htk => ?_))
  try dsimp only
  have ea : asInt? (Value.int (n : Int) u) = (pure (some (n : Int)) : Sem (Option Int)) := rfl
  rw [ea, pure_bind]
  try dsimp only
  have f1 : Builtin.List.listFitsIndex (n : Int) = true := by unfold Builtin.List.listFitsIndex; simp; omega
  have f2 : Builtin.List.listTooLong ((n : Int).toNat) = false := by unfold Builtin.List.listTooLong; simp; omega
  rw [if_neg (by rw [f1]; decide), if_neg (by omega), if_neg (by rw [f2]; decide)]
  refine wpAny_pure ?_
  have st2 := W.frame 0 _ _ tk st1 htk fun b _ o e => e
  have loop : ∀ (h5 : Heap) (c5 : Nat), h5.get? s.heap.objs.size = some { cls := .type "list", data := .seq ([] : List Value).toArray c5 } → (∀ b o, b ≠ s.heap.objs.size → (s.heap.push { cls := .type "list", data := .seq ([] : List Value).toArray }).get? b = some o → h5.get? b = some o) →
      codeAny (model prog w) A (.builtin "list.extend.loop" ⟨[.ref s.heap.objs.size, .ref D, .ref s.heap.objs.size], []⟩) (fun r s' =>
        match r with
        | Except.ok (Flow.ret v) => wpAny (model prog w) A (match v with
            | Value.ref a => do
              let __do_lift ← load a
              match __do_lift.data with
                | Data.seq xs epoch => pure xs.toList
                | x => unsupported "internal:collect"
            | x => unsupported "internal:collect") Q E s'
        | Except.ok a => False
        | Except.error e => E e s') { s with heap := h5, toks := tk } := by
    intro h5 c5 e5 k5
    have st3 := W.frame 0 _ h5 tk st2 (Nat.le_refl _) fun b hb o e => k5 b o (fun z => k1 (z ▸ hb)) e
    refine codeAny_extend_loopS W hn _ k1 _ n 0 _ _ _ rfl (Nat.zero_le _) st3 e5 (ItemsOf.nil P) fun s' acc' c' hm hS' hacc => ?_
    show wpAny (model prog w) A (load s.heap.objs.size >>= _) _ _ s'
    refine wpAny_bind (wpAny_load hS' ?_)
    refine wpAny_pure (hQ s' acc' (Moved.drop_new (o := { cls := .type "list", data := .seq ([] : List Value).toArray }) (tk := tk) (Moved.trans W.gtrans ((Moved.refl W.grefl).then_heap (Nat.le_refl _) fun b o hb e => ?_) hm) htk) hacc)
    exact k5 b o (fun h => hb (h ▸ List.mem_cons_self)) e
  by_cases z : n = 0
  · rw [if_neg (by subst z; decide +kernel)]
    exact wpAny_pure ⟨plainId_quiet F.plain_extend_loop _, loop _ _ k3 fun b o _ e => e⟩
  · rw [if_pos (by have : ((n : Int) != 0) = true := by simp; omega
                   rw [this]; rfl)]
    refine wpAny_bind (wpAny_rule ?_)
    refine wpAny_bind ?_
    show wpAny (model prog w) A.in1 (updateSeq s.heap.objs.size (·.push .none) >>= fun _ => updateSeq s.heap.objs.size (·.pop)) _ _ _
    refine wpAny_bind (wpAny_updateSeq k3 rfl ?_)
    have k6 := Heap.get?_update_self (Obj.mapSeq (·.push Value.none)) k3 rfl
    refine wpAny_updateSeq k6 rfl ?_
    have k7 := Heap.get?_update_self (Obj.mapSeq (·.pop)) k6 rfl
    exact wpAny_pure ⟨plainId_quiet F.plain_extend_loop _, loop _ _ k7 fun b o hb e => (Heap.get?_update_other _ _ (Ne.symm hb)).trans ((Heap.get?_update_other _ _ (Ne.symm hb)).trans e)⟩
end
end Rvt

namespace Rvt
open PySem PyProof.Rows
section
variable {prog : Program} {w : World} {A : Around} {E : Value → Shared → Prop} {s : Shared} {D : Addr} {fp wr : List Addr} {G : Array GenState → Array GenState → Prop} {n : Nat} {P : Nat → Value → Prop} {St : Nat → Shared → Prop}
theorem tup_code {Q : Value → Shared → Prop} (W : WalksS prog w A.in1.in1 D fp wr G n P St) (hT : ∀ i s, St i s → s.TypeIs (.ref D) "reversed") (hst : St 0 s) (hfp : ∀ b ∈ fp, b < s.heap.objs.size) (hD : D ∈ fp)
    (hhint : ∀ (s1 : Shared) (Q' : Value → Shared → Prop) (E' : Value → Shared → Prop), St 0 s1 → (∀ tk u, s1.toks ≤ tk → Q' (.int n u) { s1 with toks := tk }) → wpAny (model prog w) A.in1.in1 (call (.builtin "reversed.__length_hint__") [.ref D]) Q' E' s1)
    (h : ∀ s' acc, Moved wr G s s' → ItemsOf P acc n → Q (.ref s'.heap.objs.size) { s' with heap := s'.heap.push { cls := .type "tuple", data := .seq acc } }) (hn : n ≤ sizeLine) :
    codeAny (model prog w) A (.call (.builtin "tuple.__new__") ⟨[.type "tuple", .ref D], []⟩) (wants Q E) s := by
  refine codeAny_of_tree ?_
  show wpAny (model prog w) A.in1 (do checkBuiltinCall "tuple.__new__" ⟨[.type "tuple", .ref D], []⟩; again (.builtin "tuple.__new__" ⟨[.type "tuple", .ref D], []⟩)) _ _ s
  refine wpAny_bind (wpAny_of_eq (F.newCall_tuple_1 _) (wpAny_pure ⟨plainId_quiet F.plain_tuple_new _, codeAny_builtin F.entry_tuple_new ?_⟩))
  rw [Around.under_plainId F.plain_tuple_new _]
  have j1 := sub_tuple_self
  have j2 := init_tuple_lookup
  have j3 := madeHere_tuple
  have j4 := hT 0 s hst
  wp_walk using wpAny_typeOf j4, collect_rv W hT hst hfp hD hhint
  rotate_left
  · exact hn
  intro s' acc hm hacc
  show wpAny (model prog w) _ (Builtin.Tuple.tupleExact acc.toList.toArray >>= fun v => ret v) _ _ _
  unfold Builtin.Tuple.tupleExact
  refine wpAny_bind (wpAny_newObj_type ?_ (by show acc.toList.toArray.size ≤ sizeLine; simp only [Array.toArray_toList]; rw [hacc.1]; exact hn))
  refine wpAny_pure ?_
  have e : acc.toList.toArray = acc := by simp
  rw [e]
  exact h s' acc hm hacc
theorem tup_of {Q : Value → Shared → Prop} (W : WalksS prog w A.in1.in1.in1 D fp wr G n P St) (hT : ∀ i s, St i s → s.TypeIs (.ref D) "reversed") (hst : St 0 s) (hfp : ∀ b ∈ fp, b < s.heap.objs.size) (hD : D ∈ fp)
    (hhint : ∀ (s1 : Shared) (Q' : Value → Shared → Prop) (E' : Value → Shared → Prop), St 0 s1 → (∀ tk u, s1.toks ≤ tk → Q' (.int n u) { s1 with toks := tk }) → wpAny (model prog w) A.in1.in1.in1 (call (.builtin "reversed.__length_hint__") [.ref D]) Q' E' s1)
    (hQ : ∀ s' acc, Moved wr G s s' → ItemsOf P acc n → Q (.ref s'.heap.objs.size) { s' with heap := s'.heap.push { cls := .type "tuple", data := .seq acc } }) (hn : n ≤ sizeLine) :
    wpAny (model prog w) A (call (.type "tuple") [.ref D]) Q E s := by
  refine callType_codes (Q₁ := fun v s1 => s1.TypeIs v "tuple" ∧ Q v s1) F.called_tuple (F.typeCall_tuple_1 _) F.entry_object_init (tup_code W hT hst hfp hD hhint (fun s' acc hm hacc => ⟨⟨_, Heap.get?_push_size _ rfl, rfl⟩, hQ s' acc hm hacc⟩) hn) fun v s1 h1 => ?_
  exact ⟨h1.1, F.args_object_init_2 v _, object_init_meets F.called_tuple.init.lookup F.called_tuple.made (by decide) prog w A.in1 _ s1 ⟨h1.1, rfl, h1.2⟩⟩
end
end Rvt

namespace L2
open PySem PySem.Spec PyProof.Rows
section
variable {X : Cx} {e : Expr} {te : TE} {p q pos pos2 : Pos}
noncomputable def tTRT (K : PySem.W.Frag) (te : TE) : TE := fun σ H Q => te σ H fun x H1 => ∃ a ys, x = .ref a ∧ SqT K H1 a ys ∧ ∀ t, H1 t = none → Q (.ref t) (upd H1 t (.tup ys.reverse))
theorem pe_tupRevT (hc : X.calm = true) (hg : Gl X "tuple") (hm : X.mg "tuple" = none) (hg2 : Gl X "reversed") (hm2 : X.mg "reversed" = none) (he : PE X e te)
    (h1 : starEach [.Call (.Name "reversed" q) [e] [] pos2] X.env = [(false, eval (.Call (.Name "reversed" q) [e] [] pos2) X.env)] := by rfl) (h2 : starEach [e] X.env = [(false, eval e X.env)] := by rfl) :
    PE X (.Call (.Name "tuple" p) [.Call (.Name "reversed" q) [e] [] pos2] [] pos) (tTRT X.K te) := by
  intro pins s σ H Q I h
  refine Call_name1 h1 (ld_blt I hg hm PyProof.Rows.boot_tuple (PySem.callWith_type1 ?_))
  refine Call_name1 h2 (ld_blt I hg2 hm2 PyProof.Rows.boot_reversed (PySem.callWith_type1 ?_))
  refine thn (he pins s σ H _ I h) fun v s1 ⟨x, H1, I1, r1, q1⟩ => ?_
  obtain ⟨a, ys, rfl, hq, k⟩ := q1
  cases r1
  obtain ⟨its, rv, pl, hz⟩ := I1.tuple hq
  have hz2 : its.length ≤ sizeLine := by rw [← rv.length]; exact hz
  have hza : its.toArray.size ≤ sizeLine := by simpa using hz2
  have pt : s1.heap.IsTuple a its.toArray := pl
  refine Rvt.call_rev pt hza fun tk0 htk0 => ?_
  have hal : a < s1.heap.objs.size := by obtain ⟨o, e1, _⟩ := pt; exact Heap.lt_size e1
  have W := (Rvt.walks (prog := X.prog) (w := X.w) (A := X.A.in1.in1.in1) (I1.ok.hd hc) s1.heap.objs.size a (Nat.ne_of_lt hal) its.toArray hza).toS
  refine Rvt.tup_of W (fun i s' st => st.2.1.ty) ⟨Nat.zero_le _, ?_, pt.push _⟩ (fun b hb => ?_) (by simp) (fun s2 Q' E' st hq' => ?_) (fun s' acc hm hacc => ?_) hza
  · have : ((its.toArray.size : Nat) : Int) - 1 - ((0 : Nat) : Int) = (its.toArray.size : Int) - 1 := by omega
    rw [this]
    exact ⟨_, Heap.get?_push_size _ rfl, rfl, rfl⟩
  · show b < (s1.heap.push _).objs.size
    rw [Heap.size_push]
    rcases List.mem_cons.mp hb with rfl | hb
    · exact Nat.lt_succ_self _
    · rw [List.mem_singleton.mp hb]; exact Nat.lt_succ_of_lt hal
  · have st' := st.2.1
    rw [show ((its.toArray.size : Nat) : Int) - 1 - ((0 : Nat) : Int) = (its.toArray.size : Int) - 1 by omega] at st'
    exact Rvt.hint st' (show IsTup s2.heap a its.toArray from st.2.2) hza hq'
  · have hacc2 : acc = its.reverse.toArray := by
      refine Array.ext (by simp [hacc.1]) fun i hi hi2 => ?_
      have := hacc.2 i acc[i] (by simp [hi])
      have hl : i < its.length := by simpa using hi2
      have e1 : its[its.length - 1 - i]? = some acc[i] := by simpa using this
      have e2 : its.reverse.toArray[i] = its[its.length - 1 - i]'(by omega) := by simp
      rw [List.getElem?_eq_getElem (by omega)] at e1
      rw [e2]
      exact (Option.some.inj e1).symm
    obtain ⟨hh, gg, dd, tt, oo⟩ := s'
    have g1 : gg = s1.gens := hm.gens
    have g2 : dd = s1.drawn := hm.drawn
    have g3 : oo = s1.os := hm.os
    subst g1 g2 g3 hacc2
    have k0 : ∀ b o, s1.heap.get? b = some o → hh.get? b = some o := fun b o e1 => hm.heap b o (by simp only [List.mem_singleton]; exact Nat.ne_of_lt (Heap.lt_size e1)) (Heap.get?_push_of_some _ e1)
    have J : Inv X pins σ H1 { s1 with heap := hh, toks := tt } := I1.kept k0
    have J2 : Inv X pins σ (upd H1 hh.objs.size (.tup ys.reverse)) { s1 with heap := hh.push { cls := .type "tuple", data := .seq its.reverse.toArray }, toks := tt } :=
      Inv.laid (s := { s1 with heap := hh, toks := tt }) J (fun b o e1 => Heap.get?_push_of_some _ e1) (Nat.le_refl _) ⟨by rw [List.length_reverse]; exact hz, its.reverse, vals_rev rv, _, Heap.get?_push_size _ rfl, rfl, _, rfl⟩
    exact ⟨.ref hh.objs.size, _, J2, rfl, k _ (J.hok.fresh (Nat.le_refl _))⟩
end
end L2

namespace HT
open PySem PyProof.Rows PySem.AutoSeq1
theorem add_none (l b : Addr) (items items2 : Array Value) (n n2 : Nat) (dd dd2 : Option Addr) (sl sl2 : Array (Option Value)) (hc0 : items.isEmpty = true) :
    Meets (Builtin.«tuple.__add__» ⟨[.ref l, .ref b], []⟩) (fun _ R s => s.heap.get? l = some { cls := .type "tuple", dict := dd, data := .seq items n, slots := sl } ∧ s.heap.get? b = some { cls := .type "tuple", dict := dd2, data := .seq items2 n2, slots := sl2 } ∧ R (.ok (.ret (.ref b))) s) :=
  .of_wp fun prog w A R s h => by
    obtain ⟨hp, g, d, tk, os⟩ := s; obtain ⟨hl, hb, h⟩ := h
    have f2 := PyProof.Rows.sub_tuple_tuple
    wp_walk using wpAny_loadPart' hl, wpAny_loadPart' hb
    exact ⟨_, rfl, h⟩
section
variable {prog : Program} {w : World} {A : Around} {E : Value → Shared → Prop} {s : Shared}
theorem cat_none {t b : Addr} {ws : List Value} {Q : Value → Shared → Prop} (ht : IsTup s.heap t #[]) (hb : IsTup s.heap b ws.toArray) (h : Q (.ref b) s) : wpAny (model prog w) A (binaryOp .Add (.ref t) (.ref b)) Q E s := by
  obtain ⟨⟨cls, dd, data, sl⟩, ho, hc, n, hd⟩ := id ht
  obtain ⟨⟨cls2, dd2, data2, sl2⟩, ho2, hc2, n2, hd2⟩ := id hb
  simp only at hc hd hc2 hd2
  subst hc hd hc2 hd2
  exact concat_meets ⟨_, ho, rfl⟩ ⟨_, ho2, rfl⟩ noFill_tuple_add seq_tuple_add PySem.F.slot_tuple_add PySem.F.entry_tuple_add (PySem.F.args_tuple_add_2 _ _)
      (add_none t b #[] ws.toArray n n2 dd dd2 sl sl2 rfl) ⟨ho, ho2, h⟩
end
end HT
namespace L2
open PySem PySem.Spec PyProof.Rows
section
variable {X : Cx}
noncomputable def rCatA (K : PySem.W.Frag) : R2 := fun x y H Q => ∃ a b xs ys, x = .ref a ∧ y = .ref b ∧ SqT K H a xs ∧ SqT K H b ys ∧ xs.length + ys.length ≤ sizeLine ∧ (xs = [] → Q (.ref b) H) ∧ (xs ≠ [] → ys = [] → Q (.ref a) H) ∧ (xs ≠ [] → ys ≠ [] → ∀ p, H p = none → Q (.ref p) (upd H p (.tup (xs ++ ys))))
theorem op_catA : OpR X (binaryOp .Add) (rCatA X.K) := by
  intro pins s σ H x y v u Q I rx ry h
  obtain ⟨a, b, xs, ys, rfl, rfl, ha, hb, hz, q0, q1, q2⟩ := h
  by_cases z : xs = []
  · subst z
    cases rx
    cases ry
    obtain ⟨its, r1, p1, _⟩ := I.tuple ha
    obtain ⟨its2, r2, p2, _⟩ := I.tuple hb
    cases r1
    exact HT.cat_none p1 p2 ⟨.ref b, H, I, rfl, q0 rfl⟩
  · exact op_catT pins s σ H _ _ v u Q I rx ry ⟨a, b, xs, ys, rfl, rfl, ha, hb, z, hz, q1 z, q2 z⟩
end
end L2

namespace L2
open PySem PySem.Spec PyProof.Rows
section
variable {X : Cx} {K : PySem.W.Frag} {e : Expr} {te : TE} {p q pos pos2 : Pos} {tg : Expr}
theorem op_eqK (hu : X.A.units + 64 < cLine) (h : X.K = K := by rfl) : OpR X (compareOp .Eq) (rEqD K false) := by subst h; exact op_eqD hu
theorem op_neK (hu : X.A.units + 64 < cLine) (h : X.K = K := by rfl) : OpR X (compareOp .NotEq) (rEqD K true) := by subst h; exact op_neD hu
theorem op_catK (h : X.K = K := by rfl) : OpR X (binaryOp .Add) (rCatA K) := by subst h; exact op_catA
theorem pi_tupK {l : Expr} {tl : TE} (hl : PE X l tl) (h : X.K = K := by rfl) : PI X tg l (iTup K tl) := by subst h; exact pi_tup hl
theorem pe_tupRevTK (hc : X.calm = true) (hg : Gl X "tuple") (hm : X.mg "tuple" = none) (hg2 : Gl X "reversed") (hm2 : X.mg "reversed" = none) (he : PE X e te) (h : X.K = K := by rfl)
    (h1 : starEach [.Call (.Name "reversed" q) [e] [] pos2] X.env = [(false, eval (.Call (.Name "reversed" q) [e] [] pos2) X.env)] := by rfl) (h2 : starEach [e] X.env = [(false, eval e X.env)] := by rfl) :
    PE X (.Call (.Name "tuple" p) [.Call (.Name "reversed" q) [e] [] pos2] [] pos) (tTRT K te) := by subst h; exact pe_tupRevT hc hg hm hg2 hm2 he h1 h2
end
end L2

namespace L2
open PySem PySem.Spec PyProof.Rows
section
variable {X : Cx} {es : List Expr} {n : Nat} {tp : Pos}
end
end L2

namespace Enu
open PySem PyProof.Rows
section
variable {prog : Program} {w : World} {A : Around} {E : Value → Shared → Prop} {s : Shared} {r : Addr} {a b c : Int} {t u v : Tok} {n : Nat}
end
end Enu
namespace L2
open PySem PySem.Spec PyProof.Rows
section
variable {X : Cx} {e : Expr} {te : TE} {p q pos pos2 : Pos}
end
end L2

namespace L2
open PySem PySem.Spec PyProof.Rows

section
variable {κ : Type} [DecidableEq κ]
noncomputable def valV (kvs : List (κ × V)) (k : κ) : Option V := (kvs.find? fun kv => decide (kv.1 = k)).map (·.2)
noncomputable def putK (kvs : List (κ × V)) (k : κ) (v : V) : List (κ × V) :=
  if (kvs.any fun kv => decide (kv.1 = k)) = true then kvs.map (fun kv => if kv.1 = k then (kv.1, v) else kv) else kvs ++ [(k, v)]
noncomputable def dropK (kvs : List (κ × V)) (k : κ) : List (κ × V) := kvs.filter fun kv => decide (kv.1 ≠ k)

theorem valV_nil {k : κ} : valV ([] : List (κ × V)) k = none := rfl
theorem valV_pos {p : κ × V} {r : List (κ × V)} {k : κ} (e : p.1 = k) : valV (p :: r) k = some p.2 := by simp [valV, List.find?_cons, e]
theorem valV_neg {p : κ × V} {r : List (κ × V)} {k : κ} (e : ¬ p.1 = k) : valV (p :: r) k = valV r k := by simp [valV, List.find?_cons, e]
theorem valV_any (k : κ) : ∀ kvs : List (κ × V), (kvs.any fun kv => decide (kv.1 = k)) = (valV kvs k).isSome
  | [] => rfl
  | p :: r => by
    rw [List.any_cons]
    by_cases e : p.1 = k
    · simp only [valV_pos e, decide_eq_true e, Bool.true_or, Option.isSome_some]
    · rw [valV_neg e, decide_eq_false e, Bool.false_or]; exact valV_any k r
theorem length_putK (kvs : List (κ × V)) (k : κ) (v : V) : (putK kvs k v).length ≤ kvs.length + 1 := by
  unfold putK
  split
  · rw [List.length_map]; omega
  · rw [List.length_append, List.length_cons, List.length_nil]; omega
theorem RelO.isSome_eq {o : Option V} {u : Option Value} (r : RelO o u) : o.isSome = u.isSome := by
  cases o with
  | none => cases u with
    | none => rfl
    | some _ => exact (show False from r).elim
  | some _ => cases u with
    | none => exact (show False from r).elim
    | some _ => rfl
theorem KV.val {kvs : List (κ × V)} {vs : List (κ × Value)} (r : KV kvs vs) (k : κ) : RelO (valV kvs k) (valueAt vs k) := by
  unfold KV at r
  induction r with
  | nil => exact True.intro
  | @cons p q ps qs h t ih =>
    obtain ⟨h1, h2⟩ := h
    by_cases e : p.1 = k
    · have e' : q.1 = k := h1.symm.trans e
      have b : valueAt (q :: qs) k = some q.2 := by simp [valueAt, List.find?_cons, e']
      rw [valV_pos e, b]; exact h2
    · have e' : ¬ q.1 = k := fun z => e (h1.trans z)
      have b : valueAt (q :: qs) k = valueAt qs k := by simp [valueAt, List.find?_cons, e']
      rw [valV_neg e, b]; exact ih
theorem KV.any {kvs : List (κ × V)} {vs : List (κ × Value)} (r : KV kvs vs) (k : κ) : (kvs.any fun kv => decide (kv.1 = k)) = vs.any fun kv => decide (kv.1 = k) := by
  unfold KV at r
  induction r with
  | nil => rfl
  | cons h t ih => rw [List.any_cons, List.any_cons, ih, h.1]
theorem KV.repl {kvs : List (κ × V)} {vs : List (κ × Value)} (r : KV kvs vs) (k : κ) {y : V} {u : Value} (ry : RelV y u) :
    KV (kvs.map fun kv => if kv.1 = k then (kv.1, y) else kv) (vs.map fun kv => if kv.1 = k then (kv.1, u) else kv) := by
  unfold KV at r ⊢
  induction r with
  | nil => exact .nil
  | @cons p q ps qs h t ih =>
    rw [List.map_cons, List.map_cons]
    refine .cons ?_ ih
    obtain ⟨h1, h2⟩ := h
    by_cases e : p.1 = k
    · rw [if_pos e, if_pos (h1.symm.trans e)]; exact ⟨h1, ry⟩
    · rw [if_neg e, if_neg (fun z => e (h1.trans z))]; exact ⟨h1, h2⟩
theorem KV.put {kvs : List (κ × V)} {vs : List (κ × Value)} (r : KV kvs vs) (k : κ) {y : V} {u : Value} (ry : RelV y u) : KV (putK kvs k y) (stored vs k u) := by
  unfold putK stored
  rw [r.any k]
  by_cases e : (vs.any fun kv => decide (kv.1 = k)) = true
  · rw [if_pos e, if_pos e]; exact r.repl k ry
  · rw [if_neg e, if_neg e]; exact Paired.snoc r ⟨rfl, ry⟩
theorem KV.length {kvs : List (κ × V)} {vs : List (κ × Value)} (r : KV kvs vs) : kvs.length = vs.length := Paired.length r
end


theorem kV_is {P : Program} {w : World} {k : Key} {u : Value} (r : RelV (kV k) u) : (mixKind P w).is k u = true := by
  cases k with
  | inl i => obtain ⟨t, e⟩ := (show ∃ t, u = Value.int i t from r); subst e; exact mixKind_int P w i t
  | inr x => obtain ⟨t, e⟩ := (show ∃ t, u = Value.str x t from r); subst e; exact mixKind_str P w x t
theorem items_are {P : Program} {w : World} : ∀ {ks : List Key} {us : List Value}, Vals (ks.map kV) us → ItemsAre (mixKind P w) ks us
  | [], _, r => by rw [List.map_nil] at r; cases r; exact .nil
  | k :: ks, _, r => by
    rw [List.map_cons] at r
    cases r with
    | cons h t => exact .cons (kV_is h) (items_are t)

noncomputable abbrev KT (H : Hp) : List (List Key × V) → List (List Key × Addr × Value) → Prop := Paired fun p q => p.1 = q.1 ∧ H q.2.1 = some (.tup (p.1.map kV)) ∧ RelV p.2 q.2.2
theorem KT.val {H : Hp} {kvs : List (List Key × V)} {xs : List (List Key × Addr × Value)} (r : KT H kvs xs) (k : List Key) : RelO (valV kvs k) ((atKey xs k).map (·.2)) := by
  induction r with
  | nil => exact True.intro
  | @cons p q ps qs h t ih =>
    obtain ⟨h1, _, h2⟩ := h
    by_cases e : p.1 = k
    · have e' : q.1 = k := h1.symm.trans e
      have b : atKey (q :: qs) k = some q.2 := by simp [atKey, List.find?_cons, e']
      rw [valV_pos e, b]; exact h2
    · have e' : ¬ q.1 = k := fun z => e (h1.trans z)
      have b : atKey (q :: qs) k = atKey qs k := by simp [atKey, List.find?_cons, e']
      rw [valV_neg e, b]; exact ih
theorem KT.repl {H : Hp} {kvs : List (List Key × V)} {xs : List (List Key × Addr × Value)} (r : KT H kvs xs) (k : List Key) {y : V} {u : Value} (ry : RelV y u) :
    KT H (kvs.map fun kv => if kv.1 = k then (kv.1, y) else kv) (xs.map (putAt k u)) := by
  induction r with
  | nil => exact .nil
  | @cons p q ps qs h t ih =>
    rw [List.map_cons, List.map_cons]
    refine .cons ?_ ih
    obtain ⟨h1, h2, h3⟩ := h
    unfold putAt
    by_cases e : p.1 = k
    · rw [if_pos e, if_pos (h1.symm.trans e)]; exact ⟨h1, h2, ry⟩
    · rw [if_neg e, if_neg (fun z => e (h1.trans z))]; exact ⟨h1, h2, h3⟩
theorem KT.put {H : Hp} {kvs : List (List Key × V)} {xs : List (List Key × Addr × Value)} (r : KT H kvs xs) (k : List Key) {b : Addr} {y : V} {u : Value} (hb : H b = some (.tup (k.map kV))) (ry : RelV y u) :
    KT H (putK kvs k y) (storedH xs k b u) := by
  have e : (kvs.any fun kv => decide (kv.1 = k)) = (atKey xs k).isSome := by
    rw [valV_any, (r.val k).isSome_eq, Option.isSome_map]
  unfold putK storedH
  rw [e]
  by_cases q : (atKey xs k).isSome = true
  · rw [if_pos q, if_pos q]; exact r.repl k ry
  · rw [if_neg q, if_neg q]; exact Paired.snoc r ⟨rfl, hb, ry⟩
theorem KT.keeps {H H' : Hp} {kvs : List (List Key × V)} {xs : List (List Key × Addr × Value)} (r : KT H kvs xs) (ht : ∀ b ys, H b = some (.tup ys) → H' b = some (.tup ys)) : KT H' kvs xs :=
  Paired.mapP r fun _ _ z => ⟨z.1, ht _ _ z.2.1, z.2.2⟩

section
variable {P : Program} {w : World} {H : Hp} {h : Heap} {a : Addr}
theorem rd_of {u : HO} (ok : HOk P w H h) (e : Rd H a u) : ObjOk P w H h a u := e.ok ok
theorem dk_rd {kvs : List (Key × V)} (ok : HOk P w H h) (e : Rd H a (.dK kvs)) : kvs.length ≤ sizeLine ∧ (a == sysModules) = false ∧ ∃ vs, KV kvs vs ∧ h.DictOf (mixKind P w) a vs :=
  show ObjOk P w H h a (.dK kvs) from rd_of ok e
theorem dk_of {kvs : List (Key × V)} (ok : HOk P w H h) (e : H a = some (.dK kvs)) : kvs.length ≤ sizeLine ∧ (a == sysModules) = false ∧ ∃ vs, KV kvs vs ∧ h.DictOf (mixKind P w) a vs := dk_rd ok (.inl e)
theorem key_of {ks : List Key} (ok : HOk P w H h) (e : H a = some (.tup (ks.map kV))) : (tupleKind (mixKind P w)).is h ks a := by
  obtain ⟨_, its, r, o, h1, h2, n, h3⟩ := (show ObjOk P w H h a (.tup (ks.map kV)) from ok a _ e)
  exact ⟨o, its.toArray, n, h1, h2, h3, by simpa using items_are r⟩
theorem dt_rd {kvs : List (List Key × V)} (ok : HOk P w H h) (e : Rd H a (.dT kvs)) : kvs.length ≤ sizeLine ∧ (a == sysModules) = false ∧
    ∃ xs, KT H kvs xs ∧ h.DictOfH (tupleKind (mixKind P w)) a xs := by
  obtain ⟨z, y, xs, r, o, es, ep, h1, h2, h3, h4, h5⟩ := (show ObjOk P w H h a (.dT kvs) from rd_of ok e)
  refine ⟨z, y, xs, r, o, es, ep, h1, h2, h3, h4, fun x hx => ?_, h5⟩
  have all : ∀ {l : List (List Key × V)} {m : List (List Key × Addr × Value)}, KT H l m → ∀ x ∈ m, (tupleKind (mixKind P w)).is h x.1 x.2.1 := by
    intro l m q
    induction q with
    | nil => intro x hx; exact nomatch hx
    | @cons p q ps qs hq t ih =>
      intro x hx
      rcases List.mem_cons.mp hx with e | hx
      · subst e
        exact key_of ok (by rw [← hq.1]; exact hq.2.1)
      · exact ih x hx
  exact all r x hx
theorem dt_of {kvs : List (List Key × V)} (ok : HOk P w H h) (e : H a = some (.dT kvs)) : kvs.length ≤ sizeLine ∧ (a == sysModules) = false ∧
    ∃ xs, KT H kvs xs ∧ h.DictOfH (tupleKind (mixKind P w)) a xs := dt_rd ok (.inl e)
end

noncomputable def DGet (H : Hp) (a : Addr) (y : V) (r : Option V) : Prop :=
  (∃ kvs k, Rd H a (.dK kvs) ∧ y = kV k ∧ r = valV kvs k) ∨ ∃ kvs k b, Rd H a (.dT kvs) ∧ y = .ref b ∧ H b = some (.tup (k.map kV)) ∧ r = valV kvs k
noncomputable def DPut (H : Hp) (a : Addr) (y v : V) (H' : Hp) : Prop :=
  (∃ kvs k, H a = some (.dK kvs) ∧ y = kV k ∧ kvs.length < sizeLine ∧ H' = upd H a (.dK (putK kvs k v))) ∨
  ∃ kvs k b, H a = some (.dT kvs) ∧ y = .ref b ∧ H b = some (.tup (k.map kV)) ∧ kvs.length < sizeLine ∧ H' = upd H a (.dT (putK kvs k v))
theorem DGet.k {H : Hp} {a : Addr} {kvs : List (Key × V)} {k : Key} (e : H a = some (.dK kvs)) : DGet H a (kV k) (valV kvs k) := .inl ⟨kvs, k, .inl e, rfl, rfl⟩
theorem DGet.t {H : Hp} {a b : Addr} {kvs : List (List Key × V)} {k : List Key} (e : H a = some (.dT kvs)) (eb : H b = some (.tup (k.map kV))) : DGet H a (.ref b) (valV kvs k) := .inr ⟨kvs, k, b, .inl e, rfl, eb, rfl⟩
theorem DPut.t {H : Hp} {a b : Addr} {kvs : List (List Key × V)} {k : List Key} {v : V} (e : H a = some (.dT kvs)) (eb : H b = some (.tup (k.map kV))) (hl : kvs.length < sizeLine) :
    DPut H a (.ref b) v (upd H a (.dT (putK kvs k v))) := .inr ⟨kvs, k, b, e, rfl, eb, hl, rfl⟩


section
variable {X : Cx} {pins : List (Addr × Obj)} {σ : St} {H : Hp} {s : Shared} {a : Addr} {y v : V} {u r : Value} {o : Option V} {A : Around} {E : Value → Shared → Prop}

theorem Inv.big (I : Inv X pins σ H s) : sysModules < s.heap.objs.size := by
  have h : mainGlobals < s.heap.objs.size := (I.mod.glob.keeps I.bk).lt
  exact Nat.lt_trans (by decide) h

theorem d_getItem {Q : Value → Shared → Prop} (hu : A.units + 1 < cLine) (I : Inv X pins σ H s) (g : DGet H a y (some v)) (ry : RelV y u) (h : ∀ w' s', Inv X pins σ H s' → RelV v w' → Q w' s') :
    wpAny (model X.prog X.w) A (getItem (.ref a) u) Q E s := by
  rcases g with ⟨kvs, k, e, ey, l⟩ | ⟨kvs, k, b, e, ey, eb, l⟩
  · subst ey
    obtain ⟨z, hd, vs, rel, dd⟩ := dk_rd I.hok e
    obtain ⟨w', hw, rw'⟩ := RelO.some_of (v := v) (o := valueAt vs k) (by rw [l]; exact rel.val k)
    exact wpAny_getItem_of (kV_is ry) dd.mapOf hw (h w' _ (I.tok _) rw')
  · subst ey
    cases (show u = Value.ref b from ry)
    obtain ⟨z, hd, xs, rel, dd⟩ := dt_rd I.hok e
    obtain ⟨w', hw, rw'⟩ := RelO.some_of (v := v) (o := (atKey xs k).map (·.2)) (by rw [l]; exact rel.val k)
    obtain ⟨p, hp, hp2⟩ := Option.map_eq_some_iff.mp hw
    refine wpAny_getItem_heap (tupleKind_room_in1 hu) (key_of I.hok eb) dd hp ?_
    rw [hp2]
    exact h w' _ (I.tok _) rw'
theorem d_in {Q : Value → Shared → Prop} (hu : A.units + 1 < cLine) (I : Inv X pins σ H s) (g : DGet H a y o) (ry : RelV y u) (h : ∀ s', Inv X pins σ H s' → Q (.bool o.isSome) s') :
    wpAny (model X.prog X.w) A (compareOp .In u (.ref a)) Q E s := by
  rcases g with ⟨kvs, k, e, ey, l⟩ | ⟨kvs, k, b, e, ey, eb, l⟩
  · subst ey
    obtain ⟨z, hd, vs, rel, dd⟩ := dk_rd I.hok e
    refine wpAny_in_of (kV_is ry) hd dd.mapOf ?_
    rw [← (rel.val k).isSome_eq, ← l]
    exact h _ (I.tok _)
  · subst ey
    cases (show u = Value.ref b from ry)
    obtain ⟨z, hd, xs, rel, dd⟩ := dt_rd I.hok e
    refine wpAny_in_heap (tupleKind_room_in1 hu) (key_of I.hok eb) hd dd ?_
    have q := (rel.val k).isSome_eq
    rw [Option.isSome_map] at q
    rw [← q, ← l]
    exact h _ (I.tok _)
theorem d_notIn {Q : Value → Shared → Prop} (hu : A.units + 1 < cLine) (I : Inv X pins σ H s) (g : DGet H a y o) (ry : RelV y u) (h : ∀ s', Inv X pins σ H s' → Q (.bool (!o.isSome)) s') :
    wpAny (model X.prog X.w) A (compareOp .NotIn u (.ref a)) Q E s := by
  rcases g with ⟨kvs, k, e, ey, l⟩ | ⟨kvs, k, b, e, ey, eb, l⟩
  · subst ey
    obtain ⟨z, hd, vs, rel, dd⟩ := dk_rd I.hok e
    refine wpAny_notIn_of (kV_is ry) hd dd.mapOf ?_
    rw [← (rel.val k).isSome_eq, ← l]
    exact h _ (I.tok _)
  · subst ey
    cases (show u = Value.ref b from ry)
    obtain ⟨z, hd, xs, rel, dd⟩ := dt_rd I.hok e
    refine wpAny_notIn_heap (tupleKind_room_in1 hu) (key_of I.hok eb) hd dd ?_
    have q := (rel.val k).isSome_eq
    rw [Option.isSome_map] at q
    rw [← q, ← l]
    exact h _ (I.tok _)
theorem d_write {h' : Heap} {t' : Nat} {ob : HO} (I : Inv X pins σ H s) (mu : Mut (H a)) (hs : Heap.SameBut a s.heap h') (he : ∃ q, h'.get? a = some q) (new : ObjOk X.prog X.w (upd H a ob) h' a ob) :
    Inv X pins σ (upd H a ob) { s with heap := h', toks := t' } :=
  I.write (x := a) (e := a) mu (.inl rfl) (fun b q hb z => (hs.2 b hb).trans z) he new
theorem dk_new {P : Program} {w : World} {H' : Hp} {h' : Heap} {kvs : List (Key × V)} {vs : List (Key × Value)} (z : kvs.length ≤ sizeLine) (hd : (a == sysModules) = false) (rel : KV kvs vs) (dd : h'.DictOf (mixKind P w) a vs) :
    ObjOk P w H' h' a (.dK kvs) := ⟨z, hd, vs, rel, dd⟩
theorem d_setItem {H' : Hp} {Q : Unit → Shared → Prop} (hu : A.units + 1 < cLine) (I : Inv X pins σ H s) (g : DPut H a y v H') (ry : RelV y u) (rv : RelV v r) (h : ∀ s', Inv X pins σ H' s' → Q () s') :
    wpAny (model X.prog X.w) A (setItem (.ref a) u r) Q E s := by
  rcases g with ⟨kvs, k, e, ey, l, eH⟩ | ⟨kvs, k, b, e, ey, eb, l, eH⟩
  · subst ey eH
    obtain ⟨z, hd, vs, rel, dd⟩ := dk_of I.hok e
    have hz : vs.length ≤ sizeLine := by rw [← rel.length]; exact z
    have hl : (putK kvs k v).length ≤ sizeLine := by have := length_putK kvs k v; omega
    refine wpAny_setItem_pairs (hsz := hz) (kV_is ry) dd fun h' dd' hs => h _ ?_
    have he : ∃ q, h'.get? a = some q := let ⟨q, _, _, hq, _⟩ := dd'; ⟨q, hq⟩
    exact d_write I (by rw [e]; exact True.intro) hs he (dk_new hl hd (rel.put k rv) dd')
  · subst ey eH
    cases (show u = Value.ref b from ry)
    obtain ⟨z, hd, xs, rel, dd⟩ := dt_of I.hok e
    have hz : xs.length ≤ sizeLine := by rw [← Paired.length rel]; exact z
    have hl : (putK kvs k v).length ≤ sizeLine := by have := length_putK kvs k v; omega
    refine wpAny_setItem_heap (hsz := hz) (tupleKind_room_in1 hu) (key_of I.hok eb) dd fun h' dd' hs => h _ ?_
    obtain ⟨q, es, ep, hq, h2, h3, h4, _, h5⟩ := dd'
    refine d_write I (by rw [e]; exact True.intro) hs ⟨q, hq⟩ ⟨hl, hd, _, (rel.put k eb rv).keeps fun c ys ec => ?_, q, es, ep, hq, h2, h3, h4, h5⟩
    rw [upd_ne (ne_of ec e (fun z => nomatch z))]
    exact ec
end

section
variable {X : Cx} {pins : List (Addr × Obj)} {σ : St} {H : Hp} {s : Shared} {a : Addr} {kvs : List (Key × V)} {k : Key} {u : Value} {A : Around} {E : Value → Shared → Prop}
end


noncomputable def NoSl (i : Expr) : Prop := ∀ ov iv, subscripted i false ov iv = operate [ov, iv] (getItem ov iv)
theorem subD_of {prog : Program} {w : World} {A : Around} {E : Value → Shared → Prop} {s : Shared} {env : Env} {value slice : Expr} {pos : Pos} {T id : String} {Q : Value → Shared → Prop}
    (hl : typeLookup (.type T) "__getitem__" = pure (some (.builtin id))) (hs : NoSl slice)
    (h : wpAny (model prog w) A (eval value env) (fun o s₁ => wpAny (model prog w) A (eval slice env) (fun i s₂ => s₂.TypeIs o T ∧ wpAny (model prog w) A (getItem o i) Q E s₂) E s₁) E s) :
    wpAny (model prog w) A (eval (.Subscript value slice pos) env) Q E s := by
  refine Subscript_ (wpAny_mono h (fun o s₁ h₁ => wpAny_mono h₁ (fun i s₂ h₂ => ?_) fun _ _ x => x) fun _ _ x => x)
  obtain ⟨hT, h₂⟩ := h₂
  unfold subscriptTail
  refine wpAny_bind ?_
  rw [getitemInPython_of_ne hT.not_modules]
  refine wpAny_bind (wpAny_specialOf hT hl ?_)
  have fin : wpAny (model prog w) A (subscripted slice false o i) (fun r s₃ => wpAny (model prog w) A (letTemporaryGo value o r >>= fun _ => pure r) Q E s₃) E s₂ := by
    rw [hs o i]
    exact wpAny_operating (wpAny_mono h₂ (fun r s₃ h₃ => wpAny_bind (wpAny_letTemporaryGo (wpAny_pure h₃))) fun _ _ x => x)
  first
    | exact wpAny_pure (wpAny_bind fin)
    | exact wpAny_bind (wpAny_pure (wpAny_bind fin))
    | exact wpAny_bind fin

theorem dict_typeIs {X : Cx} {pins : List (Addr × Obj)} {σ : St} {H : Hp} {s : Shared} {a : Addr} {y : V} {o : Option V} (I : Inv X pins σ H s) (g : DGet H a y o) : s.TypeIs (.ref a) "dict" := by
  rcases g with ⟨kvs, k, e, _, _⟩ | ⟨kvs, k, b, e, _, _, _⟩
  · obtain ⟨_, _, vs, _, dd⟩ := dk_rd I.hok e
    exact dd.typeIs
  · obtain ⟨_, _, xs, _, dd⟩ := dt_rd I.hok e
    exact dd.typeIs
noncomputable def tDGet (td ty : TE) : TE := fun σ H Q => td σ H fun x H1 => ty σ H1 fun y H2 => ∃ a v, x = .ref a ∧ DGet H2 a y (some v) ∧ Q v H2
noncomputable def tDIn (ty td : TE) : TE := fun σ H Q => ty σ H fun y H1 => td σ H1 fun x H2 => ∃ a o, x = .ref a ∧ DGet H2 a y o ∧ Q (.bl o.isSome) H2
noncomputable def tDNotIn (ty td : TE) : TE := fun σ H Q => ty σ H fun y H1 => td σ H1 fun x H2 => ∃ a o, x = .ref a ∧ DGet H2 a y o ∧ Q (.bl (!o.isSome)) H2
noncomputable def sDPut (td ty tv : TE) : TS := fun D σ H => tv σ H fun v H1 => td σ H1 fun x H2 => ty σ H2 fun y H3 => ∃ a H4, x = .ref a ∧ DPut H3 a y v H4 ∧ D.nx σ H4
section
variable {X : Cx} {o i e value : Expr} {pos pos' tpos : Pos} {td ty tv : TE}
theorem pe_dget (hu : X.A.units + 1 < cLine) (ho : PE X o td) (hi : PE X i ty) (hs : NoSl i) : PE X (.Subscript o i pos) (tDGet td ty) := by
  intro pins s σ H Q I h
  refine subD_of PySem.F.slot_dict_getitem.lookup hs (thn (ho pins s σ H _ I h) fun u s1 ⟨x, H1, I1, rx, q1⟩ => thn (hi pins s1 σ H1 _ I1 q1) fun iv s2 ⟨y, H2, I2, ry, a, v, ex, g, q2⟩ => ?_)
  subst ex
  obtain rfl : u = Value.ref a := rx
  exact ⟨dict_typeIs I2 g, d_getItem hu I2 g ry fun w' s3 I3 rw' => ⟨v, H2, I3, rw', q2⟩⟩
theorem pc_din (hu : X.A.units + 1 < cLine) (hi : PE X i ty) (ho : PE X o td) : PC X .In i o (tDIn ty td) := by
  intro pins s σ H Q I h
  refine thn (hi pins s σ H _ I h) fun iv s1 ⟨y, H1, I1, ry, q1⟩ => thn (ho pins s1 σ H1 _ I1 q1) fun u s2 ⟨x, H2, I2, rx, a, ov, ex, g, q2⟩ => ?_
  subst ex
  obtain rfl : u = Value.ref a := rx
  exact d_in hu I2 g ry fun s3 I3 => ⟨.bl ov.isSome, H2, I3, rfl, q2⟩
theorem pc_dnotin (hu : X.A.units + 1 < cLine) (hi : PE X i ty) (ho : PE X o td) : PC X .NotIn i o (tDNotIn ty td) := by
  intro pins s σ H Q I h
  refine thn (hi pins s σ H _ I h) fun iv s1 ⟨y, H1, I1, ry, q1⟩ => thn (ho pins s1 σ H1 _ I1 q1) fun u s2 ⟨x, H2, I2, rx, a, ov, ex, g, q2⟩ => ?_
  subst ex
  obtain rfl : u = Value.ref a := rx
  exact d_notIn hu I2 g ry fun s3 I3 => ⟨.bl (!ov.isSome), H2, I3, rfl, q2⟩
theorem ps_dput (hu : X.A.units + 1 < cLine) (ho : PE X o td) (hi : PE X i ty) (hv : PE X value tv) (hs : swapsWith value (some (.Subscript o i pos')) pos.line X.env = pure false) :
    PS X (.Assign [.Subscript o i pos'] value pos) (sDPut td ty tv) := by
  intro pins s σ H D I h
  refine wpAny_Assign_Subscript (thn (hv pins s σ H _ I h) fun r s1 ⟨v, H1, I1, rv, q1⟩ => thn (ho pins s1 σ H1 _ I1 q1) fun u s2 ⟨x, H2, I2, rx, q2⟩ => thn (hi pins s2 σ H2 _ I2 q2) fun iv s3 ⟨y, H3, I3, ry, a, H4, ex, g, q3⟩ => ?_) hs
  subst ex
  obtain rfl : u = Value.ref a := rx
  exact d_setItem hu I3 g ry rv fun s4 I4 => ⟨σ, H4, I4, q3⟩
end


theorem dt_empty {P : Program} {w : World} {H : Hp} (h : Heap) (hb : sysModules < h.objs.size) : ObjOk P w H (h.push { cls := .type "dict", data := .dict #[] }) h.objs.size (.dT []) :=
  ⟨Nat.zero_le _, beq_eq_false_iff_ne.mpr (Ne.symm (Nat.ne_of_lt hb)), [], .nil, _, #[], 0, Heap.get?_push_size _ rfl, ⟨rfl, rfl, rfl⟩, rfl, rfl, List.nodup_nil⟩
noncomputable def tDNewT : TE := fun _ H Q => ∀ p, H p = none → Q (.ref p) (upd H p (.dT []))
section
variable {X : Cx} {pos : Pos}
theorem pe_dnewT : PE X (.Dict [] [] pos) tDNewT := fun pins s σ H Q I h =>
  wpAny_Dict_empty ⟨.ref s.heap.objs.size, _, I.laid (a := s.heap.objs.size) (o := .dT []) (t' := s.toks) (fun _ _ q => Heap.get?_push_of_some _ q) (Nat.le_refl _) (dt_empty s.heap I.big), rfl, h _ (I.hok.fresh (Nat.le_refl _))⟩
end

end L2

namespace Tim
open PySem PyProof.Rows
theorem perm_map_inv {α β : Type} {f : α → β} : ∀ {l : List β} {m : List α}, l.Perm (m.map f) → ∃ m' : List α, l = m'.map f ∧ m'.Perm m
  | [], m, h => by
    have : m = [] := by simpa using h.length_eq.symm
    exact ⟨[], rfl, by rw [this]⟩
  | b :: l, m, h => by
    obtain ⟨a, ha, rfl⟩ := List.mem_map.mp (h.mem_iff.mp List.mem_cons_self)
    obtain ⟨s, t, rfl⟩ := List.append_of_mem ha
    have h1 : (f a :: l).Perm (f a :: (s ++ t).map f) := h.trans (by simpa using (List.perm_middle (l₁ := s) (l₂ := t) (a := a)).map f)
    obtain ⟨m', e, hm⟩ := perm_map_inv (List.Perm.cons_inv h1)
    refine ⟨a :: m', by rw [List.map_cons, e], ?_⟩
    exact (hm.cons a).trans List.perm_middle.symm
section
variable {prog : Program} {w : World} {A : Around} {E : Value → Shared → Prop} {s : Shared} {kd : SortKind} {Ok : Keyed → Prop} {R : Keyed → Keyed → Bool} {Hs : Shared → Prop}
end
end Tim
namespace L2
open PySem PySem.Spec PyProof.Rows
section
variable {X : Cx} {pins : List (Addr × Obj)} {σ : St} {H : Hp} {s : Shared}
end
noncomputable def KeysAt (H : Hp) (kb : List Addr) (F : List (List Int)) : Prop := Paired (fun b xs => H b = some (.tup ((List.reverse xs).map V.int))) kb F
section
variable {X : Cx} {k : Nat} {x : Str}
variable {e : Expr} {te : TE} {pp pos kp np : Pos}
end
end L2

namespace HT
open PySem PyProof.Rows
section
variable {prog : Program} {w : World} {A : Around} {E : Value → Shared → Prop} {s : Shared}
end
end HT
namespace L2
open PySem PySem.Spec PyProof.Rows
section
variable {X : Cx} {e ex : Expr} {te tx : TE} {pos p2 : Pos}
end
section
variable {X : Cx}
end
end L2

namespace Raw
open PySem PyProof.Rows
noncomputable def At (h : Heap) (d : Addr) (es : Array DictEntry) (ep : Nat) : Prop := ∃ o, h.get? d = some o ∧ o.ExactDict ∧ o.data = .dict es ep
section
variable {prog : Program} {w : World} {A : Around} {E : Value → Shared → Prop} {s : Shared} {d it : Addr} {es : Array DictEntry} {ep i : Nat}
end
end Raw
namespace L2
open PySem PySem.Spec PyProof.Rows
section
variable {X : Cx}
end
end L2

namespace SetAnd
open PySem PyProof.Rows
section
variable {prog : Program} {w : World} {A : Around} {E : Value → Shared → Prop} {s : Shared}
end
end SetAnd

namespace SetAnd
open PySem PyProof.Rows
section
variable {prog : Program} {w : World} {A : Around} {E : Value → Shared → Prop} {s : Shared}
end
end SetAnd

namespace SetAnd
open PySem PyProof.Rows
section
variable {prog : Program} {w : World} {A : Around} {E : Value → Shared → Prop} {s : Shared}
end
end SetAnd

namespace L2
open PySem PySem.Spec PyProof.Rows
section
variable {X : Cx}
noncomputable def rInsert : V → List V → Hp → VK → Prop := fun x vs H Q => ∃ (l : Addr) (xs : List V) (i : Nat) (y : V), x = .ref l ∧ vs = [.int i, y] ∧ H l = some (.lst xs) ∧ i ≤ xs.length ∧ xs.length < sizeLine ∧ xs.length < 2 ^ 62 ∧ Q .non (upd H l (.lst (xs.take i ++ y :: xs.drop i)))
theorem mt_insert : MtM X "list.insert" rInsert := by
  intro pins s σ H x vs v us Q I rx rv h
  obtain ⟨l, xs, i, y, rfl, rfl, hH, hi, hz, hz2, q⟩ := h
  cases rx
  obtain ⟨u1, u2, rfl, r1, ry⟩ := rv.two
  obtain ⟨tk, rfl⟩ := r1
  obtain ⟨z, its, n, r, hl, e⟩ := I.lstM hH
  have hfit : Builtin.List.listFitsIndex (i : Int) = true := by
    unfold Builtin.List.listFitsIndex
    rw [Bool.and_eq_true]
    have a1 : -(2 ^ 63 : Int) ≤ (i : Int) := by omega
    have a2 : (i : Int) < 2 ^ 63 := by omega
    exact ⟨decide_eq_true a1, decide_eq_true a2⟩
  have hsz1 : its.toArray.size ≤ sizeLine := by rw [List.size_toArray]; omega
  have hnf : ¬ (!Builtin.List.listFitsIndex (i : Int)) = true := by rw [hfit]; exact Bool.false_ne_true
  generalize hzi : (i : Int) = zi at hnf
  have g := PySem.AutoSeq1.list_insert_list_int_val_1 l its.toArray n zi tk u2 hnf hsz1
  refine call_meets F.slot_list_insert ⟨_, e, rfl⟩ F.entry_list_insert (F.args_list_insert_3 _ _ _) g ⟨e, ?_⟩
  have hil : i ≤ its.length := by rw [← r.length]; exact hi
  have tk' : ∀ {xs : List V} {us : List Value} (j : Nat), Vals xs us → Vals (xs.take j) (us.take j) ∧ Vals (xs.drop j) (us.drop j) := by
    intro xs us j h
    induction h generalizing j with
    | nil => cases j <;> exact ⟨.nil, .nil⟩
    | cons r t ih =>
      cases j with
      | zero => exact ⟨.nil, .cons r t⟩
      | succ j => exact ⟨.cons r (ih j).1, (ih j).2⟩
  refine ⟨.non, _, I.lset (its' := its.take i ++ u2 :: its.drop i) hH e ?_ ?_ ?_, rfl, q⟩
  · show (its.toArray.extract 0 (if zi < 0 then _ else min zi.toNat its.toArray.size)).push u2 ++ its.toArray.extract (if zi < 0 then _ else min zi.toNat its.toArray.size) = _
    rw [if_neg (by omega)]
    have em : min zi.toNat its.toArray.size = i := by rw [List.size_toArray]; omega
    rw [em]
    apply Array.toList_inj.mp
    simp
    exact List.take_of_length_le (by rw [List.length_drop]; exact Nat.le_refl _)
  · exact (tk' i r).1.append (.cons ry (tk' i r).2)
  · rw [List.length_append, List.length_cons, List.length_take, List.length_drop]; omega
end
end L2

namespace Tx1
open PySem PySem.Builtin PySem.Builtin.Str
noncomputable def jn (c : Nat) : List (List Nat) → List Nat
  | [] => []
  | [a] => a
  | a :: b :: r => a ++ c :: jn c (b :: r)
theorem join_cps (c : Nat) : ∀ ts : List Str, (Str.join ⟨#[c]⟩ ts).cps.toList = jn c (ts.map fun t => t.cps.toList)
  | [] => rfl
  | [a] => rfl
  | a :: b :: r => by
    show (a ++ ⟨#[c]⟩ ++ Str.join ⟨#[c]⟩ (b :: r)).cps.toList = _
    have ih := join_cps c (b :: r)
    show ((a.cps ++ #[c]) ++ (Str.join ⟨#[c]⟩ (b :: r)).cps).toList = a.cps.toList ++ c :: jn c ((b :: r).map fun t => t.cps.toList)
    rw [Array.toList_append, Array.toList_append, ih]
    simp
theorem cps_inj {a b : Str} (h : a.cps.toList = b.cps.toList) : a = b := by
  cases a; cases b
  congr 1
  exact Array.toList_inj.mp h
section
variable {prog : Program} {w : World} {A : Around} {E : Value → Shared → Prop} {s : Shared} {x y : Str} {t u : Tok} {Q : Value → Shared → Prop}
theorem split_at (hy : (y.length == 0) = false) (hsz : x.length ≤ sizeLine) (hsz2 : (partsBetween x (occurrences x y 0 x.length (x.length + 1)) y.length).length ≤ sizeLine)
    (hq : ∀ (l : List (Str × Tok)) (tk : Nat), l.map (·.1) = Txt.split x y → Q (.ref s.heap.objs.size) { s with heap := s.heap.push { cls := .type "list", data := .seq (strValues l).toArray }, toks := tk }) :
    wpAny (model prog w) A (call (.builtin "str.split") [.str x t, .str y u]) Q E s := by
  cases h1 : (decide (x.length < y.length) || decide (strKind x < strKind y))
  · cases hf : (occurrences x y 0 x.length (x.length + 1)).isEmpty
    · refine call_meets F.slot_str_split (typeIs_str _ _ _) F.entry_str_split (F.args_str_split_2 _ _) (meets_str_split_sep x y t u h1 hy hf hsz hsz2) ?_
      show wants Q E _ { s with toks := _, heap := s.heap.push { cls := .type "list", data := .seq (strsFrom s.toks (partsBetween x (occurrences x y 0 x.length (x.length + 1)) y.length)).toArray } }
      rw [strsFrom_eq]
      exact hq (numbered s.toks _) _ ((numbered_texts _ _).trans ((if_neg (ne_true_of_eq_false h1)).trans (if_neg (ne_true_of_eq_false hf))).symm)
    · exact call_meets F.slot_str_split (typeIs_str _ _ _) F.entry_str_split (F.args_str_split_2 _ _) (meets_str_split_not_found x y t u h1 hy hf)
        (hq [(x, t)] _ ((if_neg (ne_true_of_eq_false h1)).trans (if_pos hf)).symm)
  · exact call_meets F.slot_str_split (typeIs_str _ _ _) F.entry_str_split (F.args_str_split_2 _ _) (meets_str_split_cannot_occur x y t u h1)
      (hq [(x, t)] _ (if_pos h1).symm)
end
end Tx1
namespace L2
open PySem PySem.Spec PyProof.Rows
theorem vals_strs : ∀ {ts : List Str} {us : List Value}, Vals (ts.map V.str) us → ∃ l : List (Str × Tok), us = strValues l ∧ l.map (·.1) = ts
  | [], _, h => by cases h; exact ⟨[], rfl, rfl⟩
  | a :: ts, _, h => by
    cases h with
    | cons r q =>
      obtain ⟨t, rfl⟩ := r
      obtain ⟨l, rfl, rfl⟩ := vals_strs q
      exact ⟨(a, t) :: l, rfl, rfl⟩
theorem strs_vals : ∀ l : List (Str × Tok), Vals ((l.map (·.1)).map V.str) (strValues l)
  | [] => .nil
  | (a, t) :: l => .cons ⟨t, rfl⟩ (strs_vals l)
section
variable {X : Cx}
noncomputable def rJoin (K : PySem.W.Frag) : V → List V → Hp → VK → Prop := fun x vs H Q => ∃ (sep : Str) (p : Addr) (ts : List Str), x = .str sep ∧ vs = [.ref p] ∧ SqL K H p (ts.map V.str) ∧ JoinOk sep ts = true ∧ Q (.str (Txt.join sep ts)) H
theorem mt_join : MtR X "str.join" (rJoin X.K) := by
  intro pins s σ H x vs v us Q I rx rv h
  obtain ⟨sep, p, ts, rfl, rfl, hq, hok, q⟩ := h
  obtain ⟨t, rfl⟩ := rx
  obtain ⟨u, rfl, ru⟩ := rv.one
  cases ru
  obtain ⟨its, r, pl, hz⟩ := I.list hq
  obtain ⟨l, rfl, hl⟩ := vals_strs r
  exact SC.join pl.isList hl hok fun t' k => ⟨.str (Txt.join sep ts), H, I.kept (fun _ _ e => e), ⟨t', rfl⟩, q⟩
noncomputable def rSplit : V → List V → Hp → VK → Prop := fun x vs H Q => ∃ (a sep : Str), x = .str a ∧ vs = [.str sep] ∧ (sep.length == 0) = false ∧ a.length ≤ 1000000 ∧ ∀ l, H l = none → Q (.ref l) (upd H l (.lst ((Txt.split a sep).map V.str)))
theorem mt_split : MtR X "str.split" rSplit := by
  intro pins s σ H x vs v us Q I rx rv h
  obtain ⟨a, sep, rfl, rfl, hs, hl, q⟩ := h
  obtain ⟨t, rfl⟩ := rx
  obtain ⟨u, rfl, ru⟩ := rv.one
  obtain ⟨t2, rfl⟩ := ru
  have hz : a.length ≤ sizeLine := by rw [sizeLine_eq]; omega
  have h2 := PyProof.Rows.split_le a sep
  have hz2 : (Builtin.Str.partsBetween a (Builtin.Str.occurrences a sep 0 a.length (a.length + 1)) sep.length).length ≤ sizeLine := by
    rw [len_partsBetween]
    have := StrLaws.occ_length_le a sep 0 a.length (a.length + 1)
    rw [sizeLine_eq]; omega
  refine Tx1.split_at hs hz hz2 fun l tk hll => ?_
  have hlen : ((Txt.split a sep).map V.str).length ≤ sizeLine := by rw [List.length_map, sizeLine_eq]; omega
  have J : Inv X pins σ (upd H s.heap.objs.size (.lst ((Txt.split a sep).map V.str))) { s with heap := s.heap.push { cls := .type "list", data := .seq (strValues l).toArray }, toks := tk } :=
    I.laid (fun b o e => Heap.get?_push_of_some _ e) (Nat.le_refl _) ⟨hlen, strValues l, _, by rw [← hll]; exact strs_vals l, Heap.get?_push_size _ rfl⟩
  exact ⟨.ref s.heap.objs.size, _, J, rfl, q _ I.fresh⟩
end
end L2

namespace Tx1
open PySem Builtin
theorem lk_list_keys : typeLookup (.type "list") "keys" = pure none := by rw [typeLookup_type, builtinLookup_eq_fast]; kernel_rfl
theorem lk_list_gattr : typeLookup (.type "list") "__getattr__" = pure none := by rw [typeLookup_type, builtinLookup_eq_fast]; kernel_rfl
section
variable {prog : Program} {w : World} {A : Around} {E : Value → Shared → Prop} {h : Heap} {g : Array GenState} {d : Drawn} {t : Nat} {os : OsState} {a : Addr} {o : Obj}
set_option maxHeartbeats 1000000 in
theorem keys_entry {tk : Tok} {Q : Fin → Shared → Prop} {its : Array Value} {n : Nat} {sl : Array (Option Value)} (hx : h.get? a = some { cls := .type "list", dict := none, data := .seq its n, slots := sl }) (hh : A.handled = none)
   (hE : ∀ (e : Addr) (h' : Heap) (tk : Nat), (∀ b o, h.get? b = some o → h'.get? b = some o) → (⟨h', g, d, tk, os⟩ : Shared).TypeIs (.ref e) "AttributeError" → E (.ref e) ⟨h', g, d, tk, os⟩) :
    wpAny (model prog w) A (Builtin.«object.__getattribute__» ⟨[.ref a, .str "keys" tk], []⟩) Q E ⟨h, g, d, t, os⟩ := by
  have hT : (⟨h, g, d, t, os⟩ : Shared).TypeIs (.ref a) "list" := ⟨_, hx, rfl⟩
  have f4 := lk_list_keys
  repeat (any_goals (first | assumption | wp_step))
  generalize hmsg : (Str.ofString
            (toString "'" ++ toString ((Manifest.find? "list").elim "list" fun x => x.tpName) ++
              toString "' object has no attribute '") ++
          Str.ofString "keys" ++
        Str.ofString "'") = msg
  have hlen : msg.length ≤ sizeLine := by rw [← hmsg, sizeLine_eq]; decide +kernel
  clear hmsg
  unfold raiseAttrError
  refine wpAny_bind (wpAny_mkStr ?_ hlen)
  refine wpAny_bind ?_
  simp only [newExc, newTuple]
  refine wpAny_bind (wpAny_newObj_type ?_ (by size_fits))
  refine wpAny_bind (m := firstArgMember _ _) (wpAny_of_eq (a := Value.none) (by first | rfl | (simp only [firstArgMember]; rfl)) ?_)
  refine wpAny_newObj_type ?_ (by size_fits)
  dsimp only
  have ho : ownMembersOf (Value.type "AttributeError") [Value.str msg t] = #[unsetMember, unsetMember] := by rfl
  rw [ho]
  have hg : ((h.push { cls := Value.type "tuple", data := Data.seq #[Value.str msg t] }).push { cls := Value.type "AttributeError", data := Data.fields (#[Value.ref h.objs.size, Value.none, Value.none, Value.none, Value.bool false, Value.none] ++ #[unsetMember, unsetMember]) }).get? (h.push { cls := Value.type "tuple", data := Data.seq #[Value.str msg t] }).objs.size = some { cls := Value.type "AttributeError", data := Data.fields (#[Value.ref h.objs.size, Value.none, Value.none, Value.none, Value.bool false, Value.none] ++ #[unsetMember, unsetMember]) } := Heap.get?_push_size _ rfl
  have hk : ∀ b o, h.get? b = some o → ((h.push { cls := Value.type "tuple", data := Data.seq #[Value.str msg t] }).push { cls := Value.type "AttributeError", data := Data.fields (#[Value.ref h.objs.size, Value.none, Value.none, Value.none, Value.bool false, Value.none] ++ #[unsetMember, unsetMember]) }).get? b = some o := fun b o e => Heap.get?_push_of_some _ (Heap.get?_push_of_some _ e)
  have hne : ∀ b o, h.get? b = some o → b ≠ (h.push { cls := Value.type "tuple", data := Data.seq #[Value.str msg t] }).objs.size := fun b o e => by rw [Heap.size_push]; exact Nat.ne_of_lt (Nat.lt_succ_of_lt (Heap.lt_size e))
  revert hg hk hne
  generalize (h.push { cls := Value.type "tuple", data := Data.seq #[Value.str msg t] }).objs.size = ea
  generalize ((h.push { cls := Value.type "tuple", data := Data.seq #[Value.str msg t] }).push { cls := Value.type "AttributeError", data := Data.fields (#[Value.ref h.objs.size, Value.none, Value.none, Value.none, Value.bool false, Value.none] ++ #[unsetMember, unsetMember]) }) = h2
  intro hg hk hne
  have hT2 : (⟨h2, g, d, t + 1, os⟩ : Shared).TypeIs (.ref ea) "AttributeError" := ⟨_, hg, rfl⟩
  unfold noteAttr
  repeat (any_goals (first | assumption | wp_step))
  have fs : isSubtype (.type "AttributeError") (.type "AttributeError") = pure true := by rw [isSubtype_type]; kernel_rfl
  refine wpAny_of_eq fs ?_
  rw [if_neg (by simp)]
  refine wpAny_bind (wpAny_load hg ?_)
  dsimp only
  rw [if_neg (by simp [unsetMember, rawInt]), if_neg (by simp [unsetMember, doubtfulMember, rawInt])]
  refine wpAny_pure ?_
  rw [if_pos rfl]
  refine wpAny_bind (wpAny_rule ?_)
  refine wpAny_bind (wpAny_typeOf (T := "AttributeError") ⟨_, hg, rfl⟩ ?_)
  dsimp only
  unfold layMembers
  refine wpAny_bind (wpAny_load hg ?_)
  dsimp only
  refine wpAny_update hg ?_
  simp only [raiseNew]
  refine wpAny_bind (wpAny_handled ?_)
  rw [hh]
  refine wpAny_bind (wpAny_pure (wpAny_throw ?_))
  refine hE ea _ _ (fun b o e => ?_) ⟨_, Heap.get?_update_self _ hg (Obj.isFreed_of_fields (Obj.data_mapFields rfl _)), (Obj.cls_mapFields ..).trans rfl⟩
  rw [Heap.get?_update_other _ _ (hne b o e).symm]
  exact hk b o e
end
end Tx1
namespace Tx1
open PySem Builtin
section
variable {prog : Program} {w : World} {A : Around} {E : Value → Shared → Prop} {h : Heap} {g : Array GenState} {d : Drawn} {t : Nat} {os : OsState} {a : Addr}
theorem keys_call {tk : Tok} {R : Result → Shared → Prop} {its : Array Value} {n : Nat} {sl : Array (Option Value)} (hx : h.get? a = some { cls := .type "list", dict := none, data := .seq its n, slots := sl }) (hh : A.handled = none)
    (hE : ∀ (e : Addr) (h' : Heap) (tk : Nat), (∀ b o, h.get? b = some o → h'.get? b = some o) → (⟨h', g, d, tk, os⟩ : Shared).TypeIs (.ref e) "AttributeError" → R (.error (.ref e)) ⟨h', g, d, tk, os⟩) :
    codeAny (model prog w) A (.call (.builtin "list.__getattribute__") ⟨[.ref a, .str "keys" tk], []⟩) R ⟨h, g, d, t, os⟩ :=
  codeAny_call_builtin F.slot_list_getattribute.plain F.entry_list_ga (F.slot_list_getattribute.check _ _ _ _ _ _ _ _ (show (⟨h, g, d, t, os⟩ : Shared).TypeIs (.ref a) "list" from ⟨_, hx, rfl⟩) (F.args_list_getattribute_2 _ _) (keys_entry hx (by simpa using hh) hE))
theorem keys_none {Q : Option Value → Shared → Prop} {its : Array Value} {n : Nat} {sl : Array (Option Value)} (hx : h.get? a = some { cls := .type "list", dict := none, data := .seq its n, slots := sl }) (hh : A.handled = none)
    (hq : ∀ (h' : Heap) (tk : Nat), (∀ b o, h.get? b = some o → h'.get? b = some o) → Q none ⟨h', g, d, tk, os⟩) : wpAny (model prog w) A (getAttr? (.ref a) "keys") Q E ⟨h, g, d, t, os⟩ := by
  have hT : (⟨h, g, d, t, os⟩ : Shared).TypeIs (.ref a) "list" := ⟨_, hx, rfl⟩
  have f2 := F.slot_list_getattribute.lookup
  have f3 := F.slot_list_getattribute.bind (.ref a)
  unfold getAttr? getAttrBy?
  repeat (any_goals (first | assumption | wp_step))
  have fs : isSubtype (.type "AttributeError") (.type "AttributeError") = pure true := by rw [isSubtype_type]; kernel_rfl
  refine keys_call hx hh fun e h' tk k hTe => ?_
  dsimp only
  unfold getattributeRaised
  refine wpAny_bind (wpAny_isInstance hTe fs ?_)
  rw [if_pos rfl]
  unfold hookBehind onTheHeap
  dsimp only
  rw [if_neg Bool.false_ne_true]
  refine wpAny_bind (wpAny_of_eq lk_list_gattr ?_)
  unfold hookOrError attributeErrorLeaves
  dsimp only
  rw [if_pos (by rfl)]
  refine wpAny_throw ?_
  refine wpAny_bind (wpAny_isInstance hTe fs ?_)
  rw [if_pos rfl]
  exact wpAny_pure (hq h' tk k)
end
end Tx1

namespace Tx1
open PySem Builtin PyProof.Rows
theorem entry_dloop : entryFor table "dict.update.loop" = some Builtin.«dict.update.loop» := entryFor_of_tree (by kernel_rfl)
theorem plain_dloop : plainId "dict.update.loop" = true := by decide +kernel
noncomputable def PairAt (h : Heap) (q : Addr × Str × Value) : Prop := ∃ o t n, h.get? q.1 = some o ∧ o.cls = .type "tuple" ∧ o.data = .seq #[.str q.2.1 t, q.2.2] n
noncomputable def kvOf (ps : List (Addr × Str × Value)) : List (L2.Key × Value) := ps.map fun q => (Sum.inr q.2.1, q.2.2)
theorem PairAt.up {h h' : Heap} {q : Addr × Str × Value} (x : PairAt h q) (e : ∀ o, h.get? q.1 = some o → h'.get? q.1 = some o) : PairAt h' q := let ⟨o, t, n, ho, r⟩ := x; ⟨o, t, n, e o ho, r⟩
section
variable {prog : Program} {w : World} {A : Around} {E : Value → Shared → Prop}
theorem dloop {R : Result → Shared → Prop} {I D : Addr} {fp wr : List Addr} {G : Array GenState → Array GenState → Prop} {ps : List (Addr × Str × Value)} {St : Nat → Shared → Prop}
    (W : WalksS prog w A.in1 I fp wr G ps.length (fun i v => ∃ q, ps[i]? = some q ∧ v = .ref q.1) St) (hDf : D ∉ fp) (hpw : ∀ q ∈ ps, q.1 ∉ D :: wr) (hnd : (ps.map (·.2.1)).Nodup) (hz : ps.length ≤ 1000) :
    ∀ (n i : Nat) (s : Shared) (tk : Tok), ps.length - i = n → i ≤ ps.length → St i s → (∀ q ∈ ps, PairAt s.heap q) → s.heap.DictOf (L2.mixKind prog w) D (kvOf (ps.take i)) →
      (∀ s', Moved (D :: wr) G s s' → s'.heap.DictOf (L2.mixKind prog w) D (kvOf ps) → R (.ok (.ret .none)) s') →
      codeAny (model prog w) A (.builtin "dict.update.loop" ⟨[.ref D, .ref I, .int i tk, .none], []⟩) R s := by
  have hDw : D ∉ wr := fun h => hDf (W.sub _ h)
  have hsub : ∀ b ∈ wr, b ∈ D :: wr := fun b hb => List.mem_cons_of_mem _ hb
  have keep : ∀ {s s' : Shared} {kvs : List (L2.Key × Value)}, Moved wr G s s' → s.heap.DictOf (L2.mixKind prog w) D kvs → s'.heap.DictOf (L2.mixKind prog w) D kvs := fun hm hS => by
    obtain ⟨o, es, ep, ho, r⟩ := hS
    exact ⟨o, es, ep, hm.heap D o hDw ho, r⟩
  intro n
  induction n with
  | zero =>
    intro i s tk hn hi hst hk hS hR
    have e : i = ps.length := by omega
    subst e
    rw [List.take_length] at hS
    refine codeAny_builtin entry_dloop ?_
    rw [Around.under_plainId plain_dloop _]
    show wpAny (model prog w) A.in1 (pyNext (.ref I) >>= _) _ _ s
    refine wpAny_bind (W.done s _ _ hst fun s' hm => ?_)
    show wpAny (model prog w) A.in1 (Builtin.Dict.addKeywords D [] >>= _) _ _ s'
    refine wpAny_bind (wpAny_pure ?_)
    exact wpAny_pure (hR s' (hm.mono hsub) (keep hm hS))
  | succ n ih =>
    intro i s tk hn hi hst hk hS hR
    have hlt : i < ps.length := by omega
    refine codeAny_builtin entry_dloop ?_
    rw [Around.under_plainId plain_dloop _]
    show wpAny (model prog w) A.in1 (pyNext (.ref I) >>= _) _ _ s
    refine wpAny_bind (W.item i s _ _ hlt hst fun v s' hP hst' hm => ?_)
    obtain ⟨q, hq, rfl⟩ := hP
    have hqx : q ∈ ps := List.mem_of_getElem? hq
    have hS' := keep hm hS
    have hk' : ∀ q ∈ ps, PairAt s'.heap q := fun q hy => (hk q hy).up fun o e => hm.heap q.1 o (fun z => hpw q hy (hsub _ z)) e
    obtain ⟨o, t, m, ho, hc, hd⟩ := hk' q hqx
    dsimp only
    refine wpAny_bind (wpAny_holding ?_)
    refine wpAny_bind (wpAny_tryCatch ?_)
    unfold Builtin.Dict.pairItems
    refine wpAny_bind (wpAny_typeOf (T := "tuple") ⟨o, ho, hc⟩ ?_)
    rw [if_pos (by decide)]
    refine wpAny_bind (wpAny_seqItems ho hd ?_)
    refine wpAny_pure ?_
    show wpAny (model prog w) A.in1 (holding [Value.str q.2.1 t, q.2.2] (dictSet D (.str q.2.1 t) q.2.2)) _ _ s'
    refine wpAny_holding ?_
    have hni : (kvOf (ps.take i)).any (fun kv => decide (kv.1 = (Sum.inr q.2.1 : L2.Key))) = false := by
      rw [List.any_eq_false]
      intro kv hkv z
      obtain ⟨r, hr, rfl⟩ := List.mem_map.mp hkv
      have e : r.2.1 = q.2.1 := by simpa using z
      obtain ⟨j, hj, e2⟩ := List.mem_take_iff_getElem.mp hr
      obtain ⟨h1, h2⟩ := List.getElem?_eq_some_iff.mp hq
      have := List.pairwise_iff_getElem.mp (List.nodup_iff_pairwise_ne.mp hnd) j i (by simp; omega) (by simpa using h1) (by omega)
      rw [List.getElem_map, List.getElem_map] at this
      exact this (by rw [e2, h2]; exact e)
    have hst3 : stored (kvOf (ps.take i)) (Sum.inr q.2.1 : L2.Key) q.2.2 = kvOf (ps.take (i + 1)) := by
      unfold stored
      rw [if_neg (by rw [hni]; exact Bool.false_ne_true), List.take_add_one, hq]
      unfold kvOf
      rw [List.map_append]
      rfl
    refine wpAny_dictSet_pairs (k := (Sum.inr q.2.1 : L2.Key)) (L2.mixKind_str prog w q.2.1 t) hS' (fun h' hm' hsb => ?_) (by unfold kvOf; rw [List.length_map, List.length_take, sizeLine_eq]; omega)
    rw [hst3] at hm'
    have ei : rawInt ((i : Int) + 1) = Value.int ((i + 1 : Nat) : Int) 0 := by unfold rawInt; congr 1
    rw [ei]
    refine wpAny_pure ⟨plainId_quiet plain_dloop _, ih (i + 1) _ 0 (by omega) hlt (W.frame _ s' _ _ hst' (Nat.le_succ _) fun b hb o e => ?_) (fun z hz2 => (hk' z hz2).up fun o e => ?_) hm' fun s'' hm'' hS'' => ?_⟩
    · rw [hsb.2 b (fun h : b = D => hDf (by rw [← h]; exact hb))]; exact e
    · rw [hsb.2 z.1 (fun h => hpw z hz2 (by rw [h]; exact List.mem_cons_self))]; exact e
    · refine hR s'' (Moved.trans W.gtrans ((hm.mono hsub).then_heap (Nat.le_succ _) fun b o hb e => ?_) hm'') hS''
      rw [hsb.2 b (fun h : b = D => hb (by rw [h]; exact List.mem_cons_self))]; exact e
end
end Tx1
namespace Tx1
open PySem Builtin PyProof.Rows
section
variable {prog : Program} {w : World} {A : Around} {E : Value → Shared → Prop} {s : Shared}
set_option maxHeartbeats 1000000 in
theorem call_dictL {l : Addr} {its : Array Value} {n : Nat} {sl : Array (Option Value)} {ps : List (Addr × Str × Value)} {Q : Value → Shared → Prop} (hh : A.handled = none) (hl : s.heap.get? l = some { cls := .type "list", dict := none, data := .seq its n, slots := sl })
    (hi : its.toList = ps.map fun q => Value.ref q.1) (hk : ∀ q ∈ ps, PairAt s.heap q) (hnd : (ps.map (·.2.1)).Nodup) (hz : ps.length ≤ 1000)
    (h : ∀ (h' : Heap) (tk : Nat), h'.DictOf (L2.mixKind prog w) s.heap.objs.size (kvOf ps) → (∀ b o, b < s.heap.objs.size → s.heap.get? b = some o → h'.get? b = some o) → Q (.ref s.heap.objs.size) { s with heap := h', toks := tk }) :
    wpAny (model prog w) A (call (.type "dict") [.ref l]) Q E s := by
  refine callType_codes (Q₁ := fun obj s₁ => obj = .ref s.heap.objs.size ∧ s₁ = { s with heap := s.heap.push { cls := .type "dict", data := .dict #[] } }) F.kt_called_dict (F.kt_typeCall_dict_1 _) F.entry_dict_init (kt_code_dict_new _ ⟨rfl, rfl⟩) ?_
  rintro obj s₁ ⟨rfl, rfl⟩
  have hnew : (s.heap.push { cls := .type "dict", data := .dict #[] }).DictOf (L2.mixKind prog w) s.heap.objs.size [] := Heap.DictOf.new s.heap
  have hl' : (s.heap.push { cls := .type "dict", data := .dict #[] }).get? l = some { cls := .type "list", dict := none, data := .seq its n, slots := sl } := Heap.get?_push_of_some _ hl
  refine ⟨hnew.typeIs, F.args_dict_init_2 _ _, ?_⟩
  unfold Builtin.«dict.__init__»
  refine wpAny_bind ?_
  unfold Builtin.Dict.selfAndRest
  refine wpAny_bind (wpAny_notOrdered_dict hnew.typeIs ?_)
  show wpAny (model prog w) _ (pure (s.heap.objs.size, [Value.ref l])) _ _ _
  refine wpAny_pure ?_
  show wpAny (model prog w) _ (Builtin.Dict.updateFrom "dict.__init__" s.heap.objs.size (.ref l) [] .none) _ _ _
  unfold Builtin.Dict.updateFrom
  refine wpAny_bind (wpAny_typeOf (T := "list") ⟨_, hl', rfl⟩ ?_)
  rw [if_pos (by decide)]
  refine wpAny_bind (keys_none hl' (by simpa using hh) fun h1 tk k1 => ?_)
  rw [if_pos (show (none : Option Value).isNone = true from rfl)]
  refine wpAny_bind (wpAny_rule ?_)
  have hl1 : h1.IsList l its := ⟨_, k1 _ _ hl', rfl, n, rfl⟩
  refine wpAny_bind (wpAny_pyIter_list (s := { s with heap := h1, toks := tk }) hl1 ?_)
  refine wpAny_pure ⟨plainId_quiet plain_dloop _, ?_⟩
  have hd1 : h1.DictOf (L2.mixKind prog w) s.heap.objs.size [] := by
    obtain ⟨o, es, ep, ho, r⟩ := hnew
    exact ⟨o, es, ep, k1 _ _ ho, r⟩
  have j1 : l < s.heap.objs.size := Heap.lt_size hl
  have j2 : A.in1.in1.handled = none := by simp [hh]
  have sz1 : s.heap.objs.size < h1.objs.size := by obtain ⟨o, es, ep, ho, r⟩ := hd1; exact Heap.lt_size ho
  have j3 : l ≠ h1.objs.size := Nat.ne_of_lt (Nat.lt_trans j1 sz1)
  have j4 : s.heap.objs.size ∉ [h1.objs.size, l] := by
    simp only [List.mem_cons, List.mem_singleton, List.not_mem_nil, or_false, not_or]
    exact ⟨Nat.ne_of_lt sz1, Nat.ne_of_gt j1⟩
  have j6 : its.size = ps.length := by rw [← Array.length_toList, hi, List.length_map]
  have W := (Walks.list (prog := prog) (w := w) j2 h1.objs.size l j3 its).toS
  have W2 : WalksS prog w A.in1.in1 h1.objs.size [h1.objs.size, l] [h1.objs.size] (fun a b => b = a) ps.length (fun i v => ∃ q, ps[i]? = some q ∧ v = .ref q.1) _ := {
    sub := W.sub, grefl := W.grefl, gtrans := W.gtrans, frame := W.frame, self := W.self
    item := fun i s Q E hi2 st hQ => W.item i s Q E (by rw [j6]; exact hi2) st fun v s' hP => hQ v s' (by
      have e : its.toList[i]? = some v := by rw [Array.getElem?_toList]; exact hP
      rw [hi, List.getElem?_map] at e
      obtain ⟨y, h1, h2⟩ := Option.map_eq_some_iff.mp e
      exact ⟨y, h1, h2.symm⟩)
    done := fun s Q E st hQ => W.done s Q E (by rw [j6]; exact st) hQ }
  have hkb : ∀ q ∈ ps, q.1 < s.heap.objs.size := fun q hq => let ⟨_, _, _, ho, _⟩ := hk q hq; Heap.lt_size ho
  refine dloop W2 j4 (fun q hq z => ?_) hnd hz (ps.length - 0) 0 _ 0 (by omega) (Nat.zero_le _) ⟨⟨_, Heap.get?_push_size _ rfl, rfl, rfl⟩, hl1.push _⟩ (fun q hq => (hk q hq).up fun o e => Heap.get?_push_of_some _ (k1 _ _ (Heap.get?_push_of_some _ e))) (hd1.push _) fun s' hm hS' => ?_
  · have := hkb q hq
    rcases List.mem_cons.mp z with z | z
    · exact Nat.lt_irrefl _ (z ▸ this)
    · have z := List.mem_singleton.mp z
      rw [z] at this
      exact absurd this (Nat.not_lt.mpr (Nat.le_of_lt sz1))
  · obtain ⟨h', g', d', tk', os'⟩ := s'
    have eg : g' = s.gens := hm.gens
    have ed : d' = s.drawn := hm.drawn
    have eo : os' = s.os := hm.os
    subst eg ed eo
    refine ⟨rfl, h h' tk' hS' fun b o hb e => ?_⟩
    have b1 : b ≠ s.heap.objs.size := Nat.ne_of_lt hb
    have b2 : b ≠ h1.objs.size := Nat.ne_of_lt (Nat.lt_trans hb sz1)
    exact hm.heap b o (by simp only [List.mem_cons, List.mem_singleton, List.not_mem_nil, or_false, not_or]; exact ⟨b1, b2⟩) (Heap.get?_push_of_some _ (k1 _ _ (Heap.get?_push_of_some _ e)))
end
end Tx1

namespace L2
open PySem PySem.Spec PyProof.Rows
section
variable {X : Cx}
noncomputable def rDictOf : List V → Hp → VK → Prop := fun xs H Q => ∃ (p : Addr) (as : List Addr) (ks : List (Str × V)), xs = [.ref p] ∧ H p = some (.lst (as.map V.ref)) ∧ Paired (fun a kv => H a = some (.tup [.str (kv : Str × V).1, kv.2])) as ks ∧ (ks.map (·.1)).Nodup ∧ ks.length ≤ 1000 ∧
  ∀ l, H l = none → Q (.ref l) (upd H l (.dK (ks.map fun kv => (Sum.inr kv.1, kv.2))))
theorem call_dictOf (hc : X.calm = true) : CallR X (.type "dict") rDictOf := by
  intro pins s σ H xs us Q I r h
  obtain ⟨p, as, ks, rfl, hp, hk, hn, hz, q⟩ := h
  obtain ⟨u, rfl, rx⟩ := r.one
  cases rx
  obtain ⟨its, rv, ⟨⟨oc, od, oda, os⟩, n, ho, hcl, hdi, hd⟩, hzl⟩ := I.list (show SqL X.K H p (as.map V.ref) from .inl (.inl hp))
  simp only at hcl hdi hd
  subst hcl hdi hd
  have hits : its = as.map Value.ref := by
    clear hk q ho hzl hp
    revert its
    induction as with
    | nil => intro its rv; cases rv; rfl
    | cons a as ih => intro its rv; cases rv with | cons r t => rw [show _ = Value.ref a from r, ih _ t]; rfl
  obtain ⟨ps, e1, e2, e3⟩ : ∃ ps : List (Addr × Str × Value), ps.map (·.1) = as ∧ (∀ z ∈ ps, Tx1.PairAt s.heap z) ∧ Paired (fun (kv : Str × V) (z : Addr × Str × Value) => kv.1 = z.2.1 ∧ RelV kv.2 z.2.2) ks ps := by
    clear q hn hz hits rv ho hzl hp
    induction hk with
    | nil => exact ⟨[], rfl, fun _ h => (nomatch h), .nil⟩
    | @cons a kv as ks ra t ih =>
      obtain ⟨ps, e1, e2, e3⟩ := ih
      obtain ⟨ts, rt, ⟨o, ho, hc, m, hd⟩, _⟩ := I.tuple (show SqT X.K H a [.str kv.1, kv.2] from .inl (.inl ra))
      cases rt with
      | cons r1 rt =>
        cases rt with
        | cons r2 rt =>
          cases rt
          obtain ⟨tk, rfl⟩ := r1
          exact ⟨(a, kv.1, _) :: ps, by rw [List.map_cons, e1], fun z hz => by
            rcases List.mem_cons.mp hz with rfl | hz
            · exact ⟨o, tk, m, ho, hc, hd⟩
            · exact e2 z hz, .cons ⟨rfl, r2⟩ e3⟩
  have ekeys : ps.map (·.2.1) = ks.map (·.1) := by
    clear q hn hz hk e1 e2
    induction e3 with
    | nil => rfl
    | cons r t ih => rw [List.map_cons, List.map_cons, ih, r.1]
  have elen : ps.length = ks.length := (Paired.length e3).symm
  refine Tx1.call_dictL (I.ok.hd hc) ho (ps := ps) (by rw [← e1, List.map_map] at hits; rw [hits]; rfl) e2 (by rw [ekeys]; exact hn) (by omega) fun h' tk hD hkp => ?_
  have hkv : KV (ks.map fun kv => ((Sum.inr kv.1 : Key), kv.2)) (Tx1.kvOf ps) := by
    unfold Tx1.kvOf
    clear q hn hz hk e1 e2 ekeys elen hD
    induction e3 with
    | nil => exact .nil
    | cons r t ih => exact .cons ⟨congrArg Sum.inr r.1, r.2⟩ ih
  have big := I.big
  have J : Inv X pins σ (upd H s.heap.objs.size (.dK (ks.map fun kv => ((Sum.inr kv.1 : Key), kv.2)))) { s with heap := h', toks := tk } :=
    I.laid (fun b o e => hkp b o (Heap.lt_size e) e) (Nat.le_refl _) (dk_new (by rw [List.length_map, sizeLine_eq]; omega) (by simpa using Nat.ne_of_gt big) hkv hD)
  exact ⟨.ref s.heap.objs.size, _, J, rfl, q _ I.fresh⟩
end
section
variable {X : Cx} {K : PySem.W.Frag}
theorem mt_joinK (h : X.K = K := by rfl) : MtR X "str.join" (rJoin K) := by subst h; exact mt_join
theorem b_dict : bootBuiltins "dict" = some (.type "dict") := by decide +kernel
end
end L2

namespace L2
open PySem PySem.Spec PyProof.Rows
noncomputable def Its (x : Str) : It := ⟨fun i _ => i < x.cps.size, fun i H v H' => H' = H ∧ ∃ c, x.cps[i]? = some c ∧ v = .str ⟨#[c]⟩, fun i _ => i = x.cps.size⟩
theorem turn_str {P : Program} {w : World} {K : PySem.W.Frag} {tg : Expr} {ty : String} {x : Str} {t : Tok} (hty : ty = "str_ascii_iterator" ∨ ty = "str_iterator") (it : Addr) : Turn P w K tg (Its x) [it] it (fun i h => h.IsStrIter it ty x t i) := by
  have Wk : ∀ A : Around, A.handled = none → Walks P w A it [it] [it] x.cps.size (SignAt x) (fun i h => h.IsStrIter it ty x t i) := fun A hA => by
    rcases hty with rfl | rfl
    · exact Walks.strAscii hA it x t
    · exact Walks.strWide hA it x t
  have no : ["enumerate", "zip", "dict_itemiterator", "dict_reverseitemiterator", "odict_iterator", "itertools.zip_longest", "itertools.pairwise"].contains ty = false := by rcases hty with rfl | rfl <;> decide
  refine ⟨by simp, fun i h st b hb => ?_, fun i h h' st k => ?_, ?_, ?_, fun A i s Q E st h => ?_⟩
  · have e : b = it := by simpa using hb
    subst e
    obtain ⟨o, e, c, d⟩ := st
    exact ⟨o, e, fun v z => by rw [d] at z; cases z⟩
  · obtain ⟨o, e, r⟩ := st
    exact ⟨o, k it (by simp) o e, r⟩
  · intro X hP hw hK hc i pins s σ H E I hf st hg
    subst hP hw hK
    obtain ⟨f0, f1, f2, f3, f4, f5⟩ := hf it (by simp)
    refine (Wk X.A (I.ok.hd hc)).item i s _ _ hg st fun v h' tk hv st' sb => ?_
    obtain ⟨c, u, hx, rfl⟩ := hv
    have I1 : Inv X pins σ H { s with heap := h', toks := tk } := I.turned (t' := tk) (fun b o hb e => sb b o (by simpa using hb) e) f0 f1 f3 f4 f5
    obtain ⟨o, e, c2, d⟩ := id st'
    exact ⟨_, rfl, go_of (s := { s with heap := h', toks := tk }) e c2 d no ⟨.str ⟨#[c]⟩, H, I1, ⟨u, rfl⟩, ⟨rfl, c, hx, rfl⟩, st', fun b hb => (hf b hb).1⟩⟩
  · intro X hP hw hK hc i pins s σ H E I hf st hg
    subst hP hw hK
    have hg : i = x.cps.size := hg
    subst hg
    obtain ⟨f0, f1, f2, f3, f4, f5⟩ := hf it (by simp)
    exact (Wk X.A (I.ok.hd hc)).done s _ _ st fun h' tk sb => ⟨rfl, I.turned (t' := tk) (fun b o hb e => sb b o (by simpa using hb) e) f0 f1 f3 f4 f5⟩
  · rcases hty with rfl | rfl
    · exact wpAny_pyIter_striter_ascii st h
    · exact wpAny_pyIter_striter_wide st h
noncomputable def iStr (te : TE) : TI := fun σ H R => te σ H fun v H1 => ∃ x, v = .str x ∧ R (Its x) H1
section
variable {X : Cx} {tg : Expr}
theorem pi_str {e : Expr} {te : TE} (he : PE X e te) : PI X tg e (iStr te) := by
  intro pins s σ H R I h
  refine thn (he pins s σ H _ I h) fun v s1 ⟨y, H1, I1, r1, x, e1, q⟩ => ?_
  subst e1
  obtain ⟨t, rfl⟩ := r1
  refine wpAny_pyIter_strU ?_
  have hty : strIterType x = "str_ascii_iterator" ∨ strIterType x = "str_iterator" := by
    rw [strIterType.eq_1]
    by_cases c : (x.cps.all fun x => decide (x < 128)) = true
    · rw [if_pos c]; exact .inl rfl
    · rw [if_neg c]; exact .inr rfl
  refine ⟨s1.heap.objs.size, [s1.heap.objs.size], _, _, H1, rfl, I1.kept (t' := s1.toks) fun b o e => Heap.get?_push_of_some _ e, turn_str (t := t) hty _, ⟨_, Heap.get?_push_size _ rfl, rfl, rfl⟩, fun b hb => ?_, q⟩
  have e : b = s1.heap.objs.size := by simpa using hb
  subst e
  exact I1.fpOk (Nat.le_refl _) (I1.hok.fresh (Nat.le_refl _))
theorem for_str {x : Str} {g : TG} {tb : TS} {D : Ends} {σ : St} {H : Hp} (Pv : Nat → St → Hp → Prop) (h0 : Pv 0 σ H)
    (hs : ∀ i c σ H, x.cps[i]? = some c → Pv i σ H → g (.str ⟨#[c]⟩) σ H fun σ2 H2 => tb { D with nx := Pv (i + 1), ct := Pv (i + 1), bk := D.nx } σ2 H2) (hd : ∀ σ H, Pv x.cps.size σ H → D.nx σ H) :
    ∃ W : Nat → Nat → St → Hp → Prop, (∃ m, W 0 m σ H) ∧ ∀ i m σ H, W i m σ H →
      ((Its x).stop i H ∧ D.nx σ H) ∨ ((Its x).go i H ∧ ∃ N : St → Hp → Prop, (∀ σ' H', N σ' H' → ∃ m', m' < m ∧ W (i + 1) m' σ' H') ∧ ∀ y H', (Its x).yld i H y H' → g y σ H' fun σ2 H2 => tb { D with nx := N, ct := N, bk := D.nx } σ2 H2) := by
  refine ⟨fun i m σ H => m = x.cps.size - i ∧ i ≤ x.cps.size ∧ Pv i σ H, ⟨x.cps.size, by simp, Nat.zero_le _, h0⟩, ?_⟩
  rintro i m σ H ⟨rfl, hi, p⟩
  by_cases hlt : i < x.cps.size
  · refine .inr ⟨hlt, Pv (i + 1), fun σ' H' p' => ⟨x.cps.size - (i + 1), by omega, rfl, hlt, p'⟩, ?_⟩
    rintro y H' ⟨rfl, c, hc, rfl⟩
    exact hs i c σ H' hc p
  · have e : i = x.cps.size := by omega
    subst e
    exact .inl ⟨rfl, hd σ H p⟩
noncomputable def rSlS : V → Option Int → Option Int → Hp → VK → Prop := fun x lo hi H Q => ∃ a, x = .str a ∧ a.length ≤ 1000000 ∧ Q (.str (Txt.slice a lo hi)) H
theorem sl_str : SlR X rSlS := by
  intro pins s σ H x v vl vu lo hi sl Q I rx hs pl pu h
  obtain ⟨a, rfl, hal, q⟩ := h
  obtain ⟨t, rfl⟩ := rx
  refine ⟨"str", _, PySem.F.slot_str_getitem.lookup, typeIs_str _ _ _, ?_⟩
  obtain ⟨l, el, hl⟩ : ∃ l : Option (Int × Tok), vl = partValue l ∧ l.map (·.1) = lo := by
    cases pl with
    | none => exact ⟨none, rfl, rfl⟩
    | int i t => exact ⟨some (i, t), rfl, rfl⟩
  obtain ⟨u, eu, hu⟩ : ∃ u : Option (Int × Tok), vu = partValue u ∧ u.map (·.1) = hi := by
    cases pu with
    | none => exact ⟨none, rfl, rfl⟩
    | int i t => exact ⟨some (i, t), rfl, rfl⟩
  subst el eu hl hu
  refine wpAny_getItem_str_slice (l := l) (u := u) (st := none) hs rfl ?_
  unfold sliceMade
  by_cases c : (((none : Option (Int × Tok)).map (·.1)).getD 1 == 1 && (slicePicked a l u none).length == a.length) = true
  · rw [if_pos c]
    have e : Txt.slice a (l.map (·.1)) (u.map (·.1)) = a := if_pos c
    rw [e] at q
    exact ⟨.str a, H, I, ⟨t, rfl⟩, q⟩
  · rw [if_neg c]
    have e : Txt.slice a (l.map (·.1)) (u.map (·.1)) = ⟨((slicePicked a l u none).filterMap (a.cps[·]?)).toArray⟩ := if_neg c
    rw [e] at q
    have hle := Txt.slice_le a (l.map (·.1)) (u.map (·.1))
    rw [e] at hle
    exact ⟨(by rw [sizeLine_eq]; omega), .str _, H, I.tok _, ⟨_, rfl⟩, q⟩
theorem call_int_text : CallR X (.type "int") (fun xs H Q => ∃ (x : Str) (n : Int), xs = [.str x] ∧ intText? x = some n ∧ x.length ≤ 640 ∧ Q (.int n) H) := by
  intro pins s σ H xs us Q I r h
  obtain ⟨x, n, rfl, hx, hl, q⟩ := h
  obtain ⟨u, rfl, t, rfl⟩ := vals1 r
  exact PySem.W.KIN.call_text hx hl ⟨.int n, H, I.tok _, ⟨_, rfl⟩, q⟩
end
end L2

namespace Exc
open PySem PyProof.Rows
noncomputable def Shift (fr ch : List Addr) (h h2 : Heap) : Prop :=
  (∀ b o, b ∉ fr → b ∉ ch → h.get? b = some o → h2.get? b = some o) ∧ (∀ b o, b ∈ fr → b ∉ ch → h.get? b = some o → ∃ sl, h2.get? b = some { o with slots := sl }) ∧ h.objs.size ≤ h2.objs.size
noncomputable def TbAt (h : Heap) (e T : Addr) (cls : Value) : Prop :=
  ∃ oe vs oT ts, h.get? e = some oe ∧ oe.cls = cls ∧ oe.dict = none ∧ oe.data = .fields vs ∧ vs[1]? = some (.ref T) ∧ T ≠ e ∧ h.get? T = some oT ∧ oT.data = .fields ts ∧ ts[3]? = some .none
theorem dict_mapFields (f : Array Value → Array Value) (o : Obj) : (Obj.mapFields f o).dict = o.dict := by
  unfold Obj.mapFields; split <;> rfl
section
variable {M : Model} {A : Around} {E : Value → Shared → Prop} {s : Shared}
theorem entry {base : Heap} {env : Env} {outer : List Env} {L e : Addr} {oe : Obj} {vs : Array Value} {head : Value} {more : Bool} {Q : Unit → Shared → Prop} (hfr : A.frames = some (env :: outer)) (hl : s.heap.FunFrames base (env :: outer)) (hf : env.frame = some L)
    (he : s.heap.get? e = some oe) (hdi : oe.dict = none) (hd : oe.data = .fields vs) (hsz : 1 < vs.size)
    (h : ∀ h2, Shift ((env :: outer).filterMap (·.frame)) [e] s.heap h2 → TbAt h2 e s.heap.objs.size oe.cls → Q () { s with heap := h2 }) :
    wpAny M A (do let a ← frameOf env; let pl ← entryPlaceOf L more; let b ← EntryCells.newEntry head a .none (rawInt L) .none pl; setField (.ref e) 1 b) (fun _ s' => wpAny M A (setFlight (.ref e) none) Q E s') E s := by
  have k0 : e ∉ (env :: outer).filterMap (·.frame) := fun hm => by
    obtain ⟨_, o, ho, hnf⟩ := hl.mem hm
    rw [he] at ho; injection ho with ho; subst ho; exact hnf vs hd
  refine wpAny_bind (wpAny_frameOf_fun hfr hl hf fun h1 q1 => ?_)
  refine wpAny_bind (wpAny_entryPlaceOf fun pl hpl => ?_)
  unfold EntryCells.newEntry newFields
  refine wpAny_bind (wpAny_newObj_type ?_ (hpl.sizeOk5 _ _ _ _ _))
  have k1 : h1.get? e = some oe := (q1.2.1 e k0).trans he
  have ksz : h1.objs.size = s.heap.objs.size := q1.1
  generalize ht : ({ cls := .type "traceback", dict := none, data := .fields ([head, .ref L, .none, rawInt L, .none] ++ (if pl.isEmpty then List.replicate 6 Value.none else pl)).toArray } : Obj) = tb
  have htd : tb.data = .fields ([head, .ref L, .none, rawInt L, .none] ++ (if pl.isEmpty then List.replicate 6 Value.none else pl)).toArray := by rw [← ht]
  have k2 := Heap.get?_push_of_some (h := h1) tb k1
  have kT0 : (h1.push tb).get? h1.objs.size = some tb := Heap.get?_push_size h1 (by rw [← ht]; rfl)
  refine wpAny_setField k2 hd hsz ?_
  have k3 : h1.objs.size ≠ e := Nat.ne_of_gt (Heap.lt_size k1)
  have k4 := Obj.data_mapFields hd (·.setIfInBounds 1 (Value.ref h1.objs.size))
  have k5 := Heap.get?_update_self (Obj.mapFields (·.setIfInBounds 1 (Value.ref h1.objs.size))) k2 (Obj.isFreed_of_fields k4)
  have k6 := (Heap.get?_update_other (h1.push tb) (Obj.mapFields (·.setIfInBounds 1 (Value.ref h1.objs.size))) (Ne.symm k3)).trans kT0
  unfold setFlight
  refine wpAny_bind (wpAny_field k5 k4 (x := .ref h1.objs.size) (by simp [hsz]) ?_)
  rw [if_pos (show (Value.ref h1.objs.size != Value.none) = true from by simp)]
  refine wpAny_setField k6 htd (by simp only [List.size_toArray, List.length_append, List.length_cons, List.length_nil] <;> omega) ?_
  have keep : ∀ b o, b ≠ e → h1.get? b = some o → (((h1.push tb).update e (Obj.mapFields (·.setIfInBounds 1 (Value.ref h1.objs.size)))).update h1.objs.size (Obj.mapFields (·.setIfInBounds 3 ((none : Option Addr).elim Value.none fun f => rawInt f)))).get? b = some o := fun b o hbe hb => by
    have hbT : h1.objs.size ≠ b := Nat.ne_of_gt (Heap.lt_size hb)
    rw [Heap.get?_update_other _ _ hbT, Heap.get?_update_other _ _ (Ne.symm hbe)]
    exact Heap.get?_push_of_some _ hb
  refine h _ ⟨fun b o hb hc q => ?_, fun b o hb hc q => ?_, ?_⟩ ?_
  · exact keep b o (fun z => hc (by simp [z])) ((q1.2.1 b hb).trans q)
  · obtain ⟨sl, q2⟩ := q1.2.2 b o q
    exact ⟨sl, keep b _ (fun z => hc (by simp [z])) q2⟩
  · rw [Heap.size_update, Heap.size_update, Heap.size_push, ksz]; exact Nat.le_succ _
  · rw [ksz] at k3 k4 k5 k6 ⊢
    refine ⟨_, _, _, _, (Heap.get?_update_other _ _ k3).trans k5, Obj.cls_mapFields _ _, (dict_mapFields _ _).trans hdi, k4, by simp [hsz], k3, Heap.get?_update_self _ k6 (Obj.isFreed_of_fields (Obj.data_mapFields htd _)), Obj.data_mapFields htd _, ?_⟩
    first | (simp; done) | (rcases hpl with rfl | ⟨_, _, _, _, _, _, _, rfl⟩ <;> simp)
end
end Exc

namespace Exc
open PySem PyProof.Rows
section
variable {M : Model} {A : Around} {E : Value → Shared → Prop} {s : Shared}
theorem note_next {base : Heap} {env : Env} {outer : List Env} {L e T : Addr} {cls : Value} {Q : Unit → Shared → Prop} (hfr : A.frames = some (env :: outer)) (hl : s.heap.FunFrames base (env :: outer)) (hf : env.frame = some L) (ht : TbAt s.heap e T cls)
    (h : ∀ h2, Shift ((env :: outer).filterMap (·.frame)) [T, e] s.heap h2 → TbAt h2 e s.heap.objs.size cls → Q () { s with heap := h2 }) :
    wpAny M A (noteFrame (.ref e) env) (fun _ s' => wpAny M A (setFlight (.ref e) none) Q E s') E s := by
  obtain ⟨oe, vs, oT, ts, he, hcls, hdi, hd, h1, hTe, hT, hdT, h3⟩ := ht
  subst hcls
  unfold noteFrame
  simp only [hf]
  refine wpAny_bind (wpAny_field he hd h1 ?_)
  rw [if_pos (show (Value.ref T != Value.none) = true from by simp)]
  refine wpAny_bind (wpAny_field hT hdT h3 ?_)
  rw [if_neg (show ¬ ((Value.none == rawInt L) = true) from by simp [rawInt])]
  refine wpAny_bind (wpAny_setField hT hdT (Array.getElem?_eq_some_iff.mp h3).1 ?_)
  have other : ∀ b, b ≠ T → (s.heap.update T (Obj.mapFields (·.setIfInBounds 3 Value.none))).get? b = s.heap.get? b := fun b hb => Heap.get?_update_other _ _ (Ne.symm hb)
  have norec : ∀ b o, s.heap.get? b = some o → (∀ vs, o.data ≠ .fields vs) → b ≠ T := fun b o hb hnf q => by
    rw [q, hT] at hb; injection hb with hb; subst hb; exact hnf ts hdT
  have hz : (s.heap.update T (Obj.mapFields (·.setIfInBounds 3 Value.none))).objs.size = s.heap.objs.size := Heap.size_update ..
  refine entry (s := { s with heap := s.heap.update T (Obj.mapFields (·.setIfInBounds 3 Value.none)) }) hfr (hl.of_keeps fun b o hb hnf => ⟨o, (other b (norec b o hb hnf)).trans hb, rfl⟩) hf ((other e (Ne.symm hTe)).trans he) hdi hd (Array.getElem?_eq_some_iff.mp h1).1 fun h2 q1 q2 => ?_
  refine h h2 ⟨fun b o hb hc q => ?_, fun b o hb hc q => ?_, ?_⟩ ?_
  · exact q1.1 b o hb (fun z => hc (List.mem_cons_of_mem _ z)) ((other b fun z => hc (by simp [z])).trans q)
  · exact q1.2.1 b o hb (fun z => hc (List.mem_cons_of_mem _ z)) ((other b fun z => hc (by simp [z])).trans q)
  · have := q1.2.2; rw [hz] at this; exact this
  · rw [← hz]; exact q2
end
end Exc

namespace L2
open PySem PySem.Spec PyProof.Rows Exc
theorem ObjOk.there {P : Program} {w : World} {H : Hp} {h : Heap} {a : Addr} {o : HO} (x : ObjOk P w H h a o) : ∃ u, h.get? a = some u := by
  cases o with
  | lst xs => obtain ⟨_, _, _, _, e⟩ := x; exact ⟨_, e⟩
  | tup xs => obtain ⟨_, _, _, o, e, _⟩ := x; exact ⟨_, e⟩
  | dK kvs => obtain ⟨_, _, _, _, o, _, _, e, _⟩ := x; exact ⟨_, e⟩
  | dT kvs => obtain ⟨_, _, _, _, o, _, _, e, _⟩ := x; exact ⟨_, e⟩
  | set S n => obtain ⟨o, _, _, _, e, _⟩ := x; exact ⟨_, e⟩
  | ins C dx fs => obtain ⟨_, _, _, e, _⟩ := x; exact ⟨_, e⟩
  | own y => exact x
  | xd fs => obtain ⟨_, ⟨_, _, _, e, _⟩, _⟩ := x; exact ⟨_, e⟩
  | rng lo hi => obtain ⟨_, _, _, e⟩ := x; exact ⟨_, e⟩
  | frz ob u => obtain ⟨e, _⟩ := x; exact ⟨_, e⟩
  | tbl ps => exact ⟨_, (show h.get? a = some _ from x)⟩
  | met f y => exact ⟨_, (show h.get? a = some _ from x)⟩
  | ext φ => exact x.2.1
theorem HOk.none_of {P : Program} {w : World} {H : Hp} {h : Heap} {a : Addr} (x : HOk P w H h) (e : h.get? a = none) : H a = none := by
  cases q : H a with
  | none => rfl
  | some o => obtain ⟨u, z⟩ := (x a o q).there; rw [e] at z; cases z
theorem HOk.shift {P : Program} {w : World} {H : Hp} {h h2 : Heap} {fr ch : List Addr} (x : HOk P w H h) (sh : Shift fr ch h h2) (hf : ∀ b ∈ fr, H b = none) (hc : ∀ b ∈ ch, H b = none) : HOk P w H h2 := fun a o e =>
  (x a o e).stay (fun b u hb q => by
    have hb' : ∃ v, H b = some v := by
      rcases hb with z | z
      · exact ⟨o, z ▸ e⟩
      · exact ⟨_, z⟩
    obtain ⟨v, hv⟩ := hb'
    exact sh.1 b u (fun z => by rw [hf b z] at hv; cases hv) (fun z => by rw [hc b z] at hv; cases hv) q) (fun _ q => q) fun _ _ q => q
noncomputable def CX1 (P : Program) (w : World) : CXT := fun outer H s E e s' => ∃ (ea T : Addr) (cls : Value) (H' : Hp), e = .ref ea ∧ s'.os = s.os ∧ AllBare s'.gens ∧ Un (frs outer) [] H H' s.heap s'.heap ∧ HOk P w H' s'.heap ∧
  TbAt s'.heap ea T cls ∧ s.heap.get? ea = none ∧ s.heap.get? T = none ∧ H' ea = none ∧ H' T = none ∧ E cls none H'
structure XCls (K : PySem.W.Frag) (C : Addr) (bmB : List Value) (newId : String) : Prop where
  obj : ∃ bm N nm q bs hdct sn sub ab col dd k0 k1 k2 k3 k5 mN, ∀ h : Heap, K.In h → h.get? C = some (excClassObj nm q C N bs bm hdct sn sub ab col dd k0 k1 k2 k3 k5 newId) ∧ h.Ns N mN ∧ mN "__init__" = none ∧ OwnTail h bmB bm
section
variable {P : Program} {w : World} {K : PySem.W.Frag} {mg : Str → Option Value} {base : Heap} {N : List Str} {qual : Str} {scope : Scope} {f C : Addr} {cd : Value} {A : Around} {outer : List Env} {s0 : Shared} {H0 : Hp} {E : XK} {x : Str} {np cpos pos : Pos} {e : Expr} {te : TE}
noncomputable def tRaise (C : Addr) (E : XK) (te : TE) : TS := fun _ σ H => te σ H fun _ H1 => E (.ref C) none H1
end
end L2

namespace L2
open PySem PySem.Spec PyProof.Rows Exc
noncomputable abbrev Cx.re (X : Cx) (A : Around) : Cx := { X with A := A, calm := false, xe := fun _ _ => False }
section
variable {X : Cx} {pins : List (Addr × Obj)} {σ : St} {H : Hp} {s : Shared} {A : Around}
theorem Inv.re (I : Inv X pins σ H s) (hf : A.frames = X.A.frames) : Inv (X.re A) pins σ H s :=
  ⟨⟨I.ok.mod, I.ok.kind, I.ok.glob, I.ok.blt, I.ok.above, I.ok.inj, I.ok.has, I.ok.cab, (fun z => nomatch z), hf.trans I.ok.frames, I.ok.stk, I.ok.exf, I.ok.bs, I.ok.bsz, I.ok.noex, I.ok.exfs, I.ok.funs, I.ok.frf⟩, I.os, I.bare, I.base, I.loc, I.cell, I.free, I.freeC, I.pin, I.hok, I.len⟩
theorem Inv.unre (I : Inv (X.re A) pins σ H s) (ok : X.Ok) : Inv X pins σ H s := ⟨ok, I.os, I.bare, I.base, I.loc, I.cell, I.free, I.freeC, I.pin, I.hok, I.len⟩
end
structure RoomH (k : Nat) (A : Around) : Prop where
  dp : A.depth + 3 * k + 5 < recursionLimit
  un : A.units + 16 * k + 200 < cLine
theorem Room.h {k : Nat} {A : Around} (r : Room k A) : RoomH k A := ⟨r.dp, r.un⟩
theorem RoomH.mono {j k : Nat} {A : Around} (r : RoomH k A) (h : j ≤ k) : RoomH j A := ⟨by have := r.dp; omega, by have := r.un; omega⟩
theorem RoomH.deeper {k : Nat} {A : Around} (r : RoomH (k + 1) A) (env : Env) : RoomH k (A.deeper env) :=
  ⟨by have := r.dp; show A.depth + 1 + 3 * k + 5 < _; omega, by have := r.un; show A.units + 3 + 16 * k + 200 < _; omega⟩
structure FnOkH (P : Program) (w : World) (K : PySem.W.Frag) (mg : Str → Option Value) (base : Heap) (k : Nat) (f : Addr) (fd : FuncData) (ps : List Str) (sp : Sp) : Prop where
  len : ∀ vs H Q E, sp vs H Q E → vs.length = ps.length
  run : ∀ (A : Around) (outer : List Env) (s : Shared) (H : Hp) (args : Args) (us : List Value) (vs : List V) (Q : VK) (E : XK), RoomH k A → Env0 P w K mg base A outer s H → BindsTo s fd args (ps.zip us) → Vals vs us → sp vs H Q E →
    codeAny (model P w) A (.call (.ref f) args) (CR CX0 outer P w H s Q E) s
section
variable {P : Program} {w : World} {K : PySem.W.Frag} {mg : Str → Option Value} {base : Heap}
theorem Fun.okH {x qual : Str} {st : Stmt} {f : Addr} {fd : FuncData} {N ps : List Str} {k : Nat} {sp : Sp} (F : Fun K x qual st f fd) (S : FnScope N ps (defScope st)) (len : ∀ vs H Q E, sp vs H Q E → vs.length = ps.length)
    (hbody : ∀ (cdv : Value) (A : Around) (outer : List Env) (s : Shared) (H : Hp) (vs : List V) (Q : VK) (E : XK), RoomH k (A.deeper (envOfC qual (defScope st) s.heap.objs.size f cdv)) → sp vs H Q E →
      ∃ t, PSs ((cxOf CX0 P w K mg base N qual (defScope st) f cdv A outer s H E).re (A.deeper (envOfC qual (defScope st) s.heap.objs.size f cdv))) (defBody st) t ∧ t { nx := fun _ H' => Q .non H', rt := Q } (start N vs) H) : FnOkH P w K mg base (k + 1) f fd ps sp := by
  obtain ⟨oc, od, kV, doc, pm, an, cdv, ct, osl, rfl, lk, hcd⟩ := F.ex
  refine ⟨len, fun A outer s H args us vs Q E hr e0 hb r hsp => ?_⟩
  have hl := len _ _ _ _ hsp
  have KX : K.In s.heap := e0.mod.kin.keeps fun b o e => (e0.bs b o e).1
  have lim : s.heap.NoLimit := e0.mod.nolimit.keeps fun b o e => (e0.bs b o e).1
  have hkind : ∀ y ∈ ps.zip us, (defScope st).names.lookup y.1 = some .local ∨ ((defScope st).names.lookup y.1 = some .cell ∧ ((cellsFrom (s.heap.objs.size + 1) (defScope st).names []).lookup y.1).isSome = true) := fun ⟨n, v⟩ hy => by
    rcases S.par n (List.of_mem_zip hy).1 with q | q
    · exact .inl q
    · exact .inr ⟨q, PySem.W.cellsFrom_some _ _ _ (.inl q)⟩
  refine codeAny_call_function (by have := hr.dp; omega) (KX _ _ lk) rfl S.co S.gen rfl (PySem.W.codeRec_of KX hcd) (hb _ _ _ _ ?_)
  refine wpAny_newFunctionEnv_cells S.kind hkind fun env he s1 x => ?_
  subst he
  refine ⟨lim.keeps x.toInCall.keep, codeAny_func ?_⟩
  obtain ⟨t, ht, hq⟩ := hbody cdv A outer s H vs Q E (hr.deeper _) hsp
  have e1 : Env0 P w K mg base { A with handled := none } outer s H := ⟨e0.frames, e0.mod, e0.bs, e0.bsz, e0.funs, e0.frf, e0.hok, e0.bare⟩
  have I0 : Inv (cxOf CX0 P w K mg base N qual (defScope st) f cdv { A with handled := none } outer s H E) [] (start N vs) H s1 := inv_start S rfl e1 hl r x
  have I : Inv ((cxOf CX0 P w K mg base N qual (defScope st) f cdv A outer s H E).re (A.deeper (envOfC qual (defScope st) s.heap.objs.size f cdv))) [] (start N vs) H s1 := I0.re (A := A.deeper (envOfC qual (defScope st) s.heap.objs.size f cdv)) rfl
  refine wpAny_mono (ht [] s1 (start N vs) H _ I hq) (fun fl s' hs => ?_) fun e s' hs => hs.elim
  have fin : ∀ {σ' : St} {H' : Hp} {v : V} {u : Value}, Inv ((cxOf CX0 P w K mg base N qual (defScope st) f cdv A outer s H E).re (A.deeper (envOfC qual (defScope st) s.heap.objs.size f cdv))) [] σ' H' s' → RelV v u → Q v H' → CE outer P w H s Q u s' :=
    fun {σ' H' v u} J rv q => ⟨v, H', J.os, J.bare, J.base, J.hok, rv, q⟩
  cases fl with
  | ret u =>
    obtain ⟨v, σ', H', J, rv, q⟩ := hs
    exact fin J rv q
  | next =>
    obtain ⟨σ', H', J, q⟩ := hs
    exact fin (v := V.non) (u := Value.none) J rfl q
  | brk =>
    obtain ⟨_, _, _, q⟩ := hs
    exact False.elim q
  | cont =>
    obtain ⟨_, _, _, q⟩ := hs
    exact False.elim q
theorem Fun.okX {x qual : Str} {st : Stmt} {f : Addr} {fd : FuncData} {N ps : List Str} {k : Nat} {sp : Sp} (F : Fun K x qual st f fd) (S : FnScope N ps (defScope st)) (len : ∀ vs H Q E, sp vs H Q E → vs.length = ps.length)
    (hbody : ∀ (cdv : Value) (A : Around) (outer : List Env) (s : Shared) (H : Hp) (vs : List V) (Q : VK) (E : XK), Room k (A.deeper (envOfC qual (defScope st) s.heap.objs.size f cdv)) → sp vs H Q E →
      ∃ t, PSs (cxOf (CX1 P w) P w K mg base N qual (defScope st) f cdv A outer s H E) (defBody st) t ∧ t { nx := fun _ H' => Q .non H', rt := Q } (start N vs) H) : FnOk P w K mg base (CX1 P w) (k + 1) f fd ps sp := by
  obtain ⟨oc, od, kV, doc, pm, an, cdv, ct, osl, rfl, lk, hcd⟩ := F.ex
  exact fn_of lk hcd S len fun A outer s H vs Q E hr hsp => hbody cdv A outer s H vs Q E hr hsp
end
noncomputable def CalX (P : Program) (w : World) (K : PySem.W.Frag) (mg : Str → Option Value) (base : Heap) (x : Str) (k : Nat) (sp : Sp) : Prop :=
  ∃ f fd ps, mg x = some (.ref f) ∧ FnOk P w K mg base (CX1 P w) k f fd ps sp ∧ PySem.W.keepIn K (.ref f) = true ∧ Binds K fd ps []
noncomputable def CalH (P : Program) (w : World) (K : PySem.W.Frag) (mg : Str → Option Value) (base : Heap) (x : Str) (k : Nat) (sp : Sp) : Prop :=
  ∃ f fd ps, mg x = some (.ref f) ∧ FnOkH P w K mg base k f fd ps sp ∧ PySem.W.keepIn K (.ref f) = true ∧ Binds K fd ps []
section
variable {X : Cx} {k : Nat} {x : Str} {sp : Sp} {p pos : Pos} {e : Expr} {es : List Expr} {t : TA}
theorem pe_calH (c : CalH X.prog X.w X.K X.mg X.base x k sp) (hr : RoomH k X.A) (hg : Gl X x) (ha : PA X (e :: es) t) (hdb : (x == ("__debug__" : Str)) = false := by decide)
    (he : starEach (e :: es) X.env = (false, eval e X.env) :: starEach es X.env := by rfl) (hpl : (backTo pos (starEach es X.env)).any (·.1) = false := by rfl) : PE X (.Call (.Name x p) (e :: es) [] pos) (tCall sp [] E0 t) := by
  obtain ⟨f, fd, ps, hm, F, hk, hb⟩ := c
  intro pins s σ H Q I h
  refine wpAny_Call_Name_kw (ld_glob I hg hm ?_ hdb)
  refine PySem.W.callWith_K (h₀ := X.base) I.ok.mod.kin hk (thn (ha pos pins s σ H _ I h) fun us s1 ⟨vs, H1, I1, r, q⟩ => ⟨I1.kIn, ?_⟩) he hpl
  have hl : (us ++ []).length = ps.length := by rw [List.append_nil, ← r.length]; have := F.len _ _ _ _ q; simpa using this
  refine wpAny_call (codeAny_mono (F.run X.A X.stack s1 H1 ⟨us, []⟩ (us ++ []) (vs ++ []) Q E0 hr I1.env0 (hb s1 us I1.kIn hl) (by simpa using r) q) fun r s' hq => ?_)
  cases r with
  | error e => exact hq.elim
  | ok fl =>
    cases fl with
    | ret u => exact I1.after hq
    | next => exact False.elim hq
    | brk => exact False.elim hq
    | cont => exact False.elim hq
end
end L2

namespace Exc
open PySem PySem.Spec PyProof.Rows PySem.W
section
variable {prog : Program} {w : World} {A : Around} {E : Value → Shared → Prop} {s : Shared} {K : Frag} {x C : Addr} {ox : Obj}
structure XK1 (K : Frag) (C : Addr) : Prop where
  cls : (clsIn K C).isSome = true
  ga : findIn K (.ref C) "__getattribute__" = some (some (.builtin "BaseException.__getattribute__"))
  gt : findIn K (.ref C) "__getattr__" = some none
  cl : findIn K (.ref C) "__class__" = some (some (.builtin "object.__class__"))
  sp : specialIn K (.builtin "object.__class__") "__get__" = some (some (.builtin "getset_descriptor.__get__"))
  tk : takesIn K (.builtin "object.__class__") = some true
  mo : mroIn K C (.type "object") = some true
  mb : mroIn K C (.type "BaseException") = some true
theorem findNo {a g : Value} {name : Str} (hc : (clsIn K C).isSome = true) (ha : findIn K (.ref C) name = some (some a)) (hg : specialIn K a "__get__" = some (some g)) (ht : takesIn K a = some true) : findObj K C none name = some (.bind g a) := by
  obtain ⟨cd, hc⟩ := Option.isSome_iff_exists.mp hc
  unfold findObj
  rw [hc, Option.bind_some, ha, Option.bind_some]
  simp [hg, ht]
theorem ga_bind (v : Value) : bindSpecial (.builtin "BaseException.__getattribute__") v = pure (.builtin "BaseException.__getattribute__", [v]) := by
  first | rfl | kernel_rfl | exact (PySem.F.slot_ValueError_getattribute).bind v
theorem exc_class {Q : Option Value → Shared → Prop} (c : XK1 K C) (X : K.In s.heap) (I : InstAt s.heap x ox C none) (h : Q (some (.ref C)) { s with toks := s.toks + 1 }) : wpAny (model prog w) A (getAttr? (.ref x) "__class__") Q E s := by
  obtain ⟨hh, g, d, t, os⟩ := s
  have L0 := I.type (M := model prog w)
  have L1 := looks_findIn (M := model prog w) X c.ga
  have L2 := looks_findIn (M := model prog w) X c.gt
  have L3 := looks_find (M := model prog w) X I (findNo c.cls c.cl c.sp c.tk)
  have L4 := looks_mroIn (M := model prog w) X c.mb
  unfold getAttr? getAttrBy? getAttrBy
  refine wpAny_bind (wpAny_mkText (wpAny_bind (wpAny_attempt (wpAny_holding (wpAny_bind (L0.at (wpAny_bind (L1.at ?_))))))))
  have hx2 : (Value.builtin "BaseException.__getattribute__" == Value.builtin "object.__getattribute__") = false := by decide +kernel
  dsimp only
  rw [if_neg (by rw [hx2]; simp)]
  unfold getAttrByItsOwn hookBefore
  rw [if_pos (show onTheHeap (Value.ref C) = true from rfl)]
  refine wpAny_bind (L2.at (wpAny_bind (wpAny_attempt (wpAny_holding ?_))))
  unfold callGetattribute boundAndCalled
  rw [if_neg (by simp)]
  rw [ga_bind]
  refine wpAny_bind (wpAny_pure ?_)
  show wpAny (model prog w) A (call (.builtin "BaseException.__getattribute__") [.ref x, .str "__class__" t]) _ _ _
  have hpl : plainId "BaseException.__getattribute__" = true := by decide +kernel
  refine wpAny_call (codeAny_call_builtin hpl PySem.F.entry_bexc_ga ?_)
  have hk : builtinKind "BaseException.__getattribute__" = some .slot := by decide +kernel
  have hsplit : splitId "BaseException.__getattribute__" = some ("BaseException", "__getattribute__") := by decide +kernel
  have ha := PySem.F.args_bexc_ga (.ref x) (.str "__class__" t)
  simp only [checkBuiltinCall, hk, hsplit]
  unfold isInstance
  refine wpAny_bind (wpAny_bind (L0.at (L4.at ?_)))
  rw [if_neg (by decide)]
  have hsg : (match Manifest.signature? "BaseException.__getattribute__" with
      | some sig => Bind.checkArgs "BaseException.__getattribute__" sig { pos := [Value.ref x, Value.str (Str.ofString "__class__") t] }
      | x => pure ()) = pure () := by
    unfold argsOk at ha
    split
    · rename_i sig q
      rw [q] at ha
      exact ha
    · rfl
  refine wpAny_of_eq hsg ?_
  unfold Builtin.«object.__getattribute__»
  refine wpAny_bind (wpAny_of_eq (a := (Value.ref x, [Value.str (Str.ofString "__class__") t])) rfl ?_)
  dsimp only
  refine wpAny_bind (wpAny_of_eq (a := (Str.ofString "__class__")) rfl ?_)
  refine wpAny_bind (L0.at (wpAny_bind (L3.at ?_)))
  dsimp only
  unfold Builtin.ObjectAttr.bindTo
  dsimp only
  exact wpAny_bind (wpAny_holding (wpAny_call (class_get (s := ⟨hh, g, d, t + 1, os⟩) (ox := ox) (od := none) X I c.mo (wpAny_pure (handed_on rfl (wpAny_pure h))))))
theorem kitx_exc (c : XK1 K C) : KitX K (.ref x) (.ref C) (fun h => ∃ ox, InstAt h x ox C none) where
  ty := fun _ _ _ ⟨_, I⟩ => I.type
  it := fun _ _ X _ => by
    obtain ⟨cdD, hcD⟩ := Option.isSome_iff_exists.mp c.cls
    unfold clsIn at hcD
    split at hcD
    · rename_i c' d' cd' sl' ho
      intro A' Q' E' s' k q
      unfold isType loadHead
      exact wpAny_bind (wpAny_loadPart (k _ _ (X _ _ ho)) (wpAny_pure q))
    · cases hcD
  ne := fun h tp dd its n sl X htp => by
    obtain ⟨cdD, hcD⟩ := Option.isSome_iff_exists.mp c.cls
    refine Bool.eq_false_iff.mpr fun q => ?_
    have e : C = tp := Value.ref.inj (beq_iff_eq.mp q)
    subst e
    unfold clsIn at hcD
    split at hcD
    · rename_i c' d' cd' sl' ho
      have z := (X _ _ ho).symm.trans htp
      cases z
    · cases hcD
  ca := fun X ⟨_, I⟩ k => exc_class c X I k
end
end Exc

namespace L2
open PySem PySem.Spec PyProof.Rows Exc
noncomputable def isExc (C ea : Addr) : Heap → Prop := fun h => ∃ o, PySem.W.InstAt h ea o C none
theorem isExc_ok {P : Program} {w : World} {H : Hp} {h : Heap} {C ea : Addr} (x : isExc C ea h) : ObjOk P w H h ea (.ext (isExc C ea)) := by
  obtain ⟨o, i⟩ := id x
  refine ⟨x, ⟨o, i.at_⟩, fun h1 h2 y k => ?_⟩
  obtain ⟨o, i⟩ := y
  have hd := i.dict
  refine ⟨o, k _ i.at_, i.cls, i.no, ?_⟩
  cases q : o.dict with
  | none => trivial
  | some d => rw [q] at hd; exact hd.elim
section
variable {X : Cx} {e : Expr} {te : TE} {p p2 pos : Pos} {c : Str} {T : String}
noncomputable def tIsX (K : PySem.W.Frag) (te : TE) (v : Value) : TE := fun σ H Q => te σ H fun x H1 => ∃ ea C b, x = .ref ea ∧ H1 ea = some (.ext (isExc C ea)) ∧ XK1 K C ∧ PySem.W.kitOne K (.ref C) v = some b ∧ Q (.bl b) H1
theorem pe_isX {v : Value} (hg : Gl X "isinstance") (hm : X.mg "isinstance" = none) (he : PE X e te) (hv : ∀ (pins : List (Addr × Obj)) (s : Shared) (σ : St) (H : Hp) (Q : Value → Shared → Prop), Inv X pins σ H s → Q v s → wpAny (model X.prog X.w) X.A (eval (.Name c p2) X.env) Q X.xe s)
    (h1 : starEach [e, .Name c p2] X.env = [(false, eval e X.env), (false, eval (.Name c p2) X.env)] := by rfl) (h2 : starEach [.Name c p2] X.env = [(false, eval (.Name c p2) X.env)] := by rfl) :
    PE X (.Call (.Name "isinstance" p) [e, .Name c p2] [] pos) (tIsX X.K te v) := by
  intro pins s σ H Q I h
  refine wpAny_Call_Name_kw (ld_blt I hg hm b_isinstance ?_)
  refine PyProof.Rows.callWith_builtin1 ?_ (by rw [h1, h2]) (by rw [h2]; rfl)
  rw [h1]
  refine Calls.spliced_cons ?_
  refine thn (he pins s σ H _ I h) fun u s1 ⟨x, H1, I1, r1, q1⟩ => ?_
  obtain ⟨ea, C, b, rfl, hH, xc, hk, q⟩ := q1
  cases r1
  refine Calls.spliced_cons (hv pins s1 σ H1 _ I1 (Calls.spliced_nil ?_))
  obtain ⟨hx, _, _⟩ : ObjOk X.prog X.w H1 s1.heap ea (.ext (isExc C ea)) := I1.hok ea _ hH
  exact PySem.W.kia_one (kitx_exc xc) I1.kIn hx hk (fun z => nomatch z) fun tk => ⟨.bl b, H1, I1.tok tk, rfl, q⟩
end
end L2

namespace L2
open PySem PySem.Spec PyProof.Rows Exc
section
variable {X : Cx} {pins : List (Addr × Obj)} {σ : St} {H : Hp} {s : Shared} {h2 : Heap}
theorem Inv.shift {ch : List Addr} {t' : Nat} (I : Inv X pins σ H s) (sh : Shift (frs X.stack) ch s.heap h2) (hc : ∀ b ∈ ch, X.s₀.heap.get? b = none ∧ H b = none ∧ b ≠ X.env.locals ∧ (∀ x c, X.env.cells.lookup x = some c → c ≠ b) ∧ ∀ p ∈ X.pn ++ pins, p.1 ≠ b) :
    Inv X pins σ H { s with heap := h2, toks := t' } := by
  have nch : ∀ b o, X.s₀.heap.get? b = some o → b ∉ ch := fun b o e z => by rw [(hc b z).1] at e; cases e
  have nL : ∀ b o, X.s₀.heap.get? b = some o → b ≠ X.env.locals := fun b o e => Nat.ne_of_lt (Nat.lt_of_lt_of_le (Heap.lt_size e) I.ok.above)
  have inS : ∀ b, b ∈ frs X.stack → b = X.env.locals ∨ b ∈ X.fs := fun b hb => List.mem_cons.mp (I.stkSub b hb)
  have any : ∀ b o, b ∉ ch → s.heap.get? b = some o → ∃ sl, h2.get? b = some { o with slots := sl } := fun b o hb e => by
    by_cases z : b ∈ frs X.stack
    · exact sh.2.1 b o z hb e
    · exact ⟨o.slots, sh.1 b o z hb e⟩
  have cellK : ∀ x c, X.env.cells.lookup x = some c → ∀ v, s.heap.IsCell c v → h2.IsCell c v := fun x c e v ⟨o, ho, hd⟩ => by
    obtain ⟨sl, q⟩ := any c o (fun z => (hc c z).2.2.2.1 x c e rfl) ho
    exact ⟨_, q, hd⟩
  refine ⟨I.ok, I.os, I.bare, ⟨fun b o e n hb hx => ?_, fun b o e n hb hx => ?_, I.base.free, fun b o e hx => ?_, I.base.tups, I.base.frzs, I.base.tbls⟩, ?_, fun x c e => ?_, I.free, I.freeC, fun p hp => ?_, I.hok.shift sh I.stkFree fun b hb => (hc b hb).2.1, I.len⟩
  · exact sh.1 b o (fun z => (inS b z).elim (nL b o e) hb) (nch b o e) (I.base.keep b o e n hb hx)
  · obtain ⟨sl, e1⟩ := I.base.slot b o e n hb hx
    obtain ⟨sl2, e2⟩ := any b _ (nch b o e) e1
    exact ⟨sl2, e2⟩
  · obtain ⟨o2, e1⟩ := I.base.there b o e hx
    obtain ⟨sl2, e2⟩ := any b _ (nch b o e) e1
    exact ⟨_, e2⟩
  · obtain ⟨m, ⟨o, es, ep, ho, hd, r⟩, hl⟩ := I.loc
    obtain ⟨sl, q⟩ := any _ o (fun z => (hc _ z).2.2.1 rfl) ho
    refine ⟨m, ⟨_, es, ep, q, hd, r⟩, fun i x v e1 e2 e3 => ?_⟩
    obtain ⟨u, ru, l⟩ := hl i x v e1 e2 e3
    refine ⟨u, ru, ?_⟩
    rcases l with l | ⟨k, c, e, z⟩
    · exact .inl l
    · exact .inr ⟨k, c, e, cellK x c e _ z⟩
  · obtain ⟨v, z⟩ := I.cell x c e
    exact ⟨v, cellK x c e v z⟩
  · obtain ⟨e, n, ne, nf, d⟩ := I.pin p hp
    exact ⟨sh.1 p.1 p.2 (fun z => (inS p.1 z).elim ne nf) (fun z => (hc p.1 z).2.2.2.2 p hp rfl) e, n, ne, nf, d⟩
theorem Inv.track {a : Addr} {o : HO} (I : Inv X pins σ H s) (n0 : X.s₀.heap.get? a = none) (n1 : H a = none) (nL : a ≠ X.env.locals) (nC : ∀ x c, X.env.cells.lookup x = some c → c ≠ a) (nP : ∀ p ∈ X.pn ++ pins, p.1 ≠ a) (new : ObjOk X.prog X.w (upd H a o) s.heap a o) :
    Inv X pins σ (upd H a o) s := by
  have ne : ∀ b u, H b = some u → b ≠ a := fun b u e z => by rw [z, n1] at e; cases e
  refine ⟨I.ok, I.os, I.bare, ⟨I.base.keep, I.base.slot, fun b u e n hx => ?_, I.base.there, fun b xs e => ?_, fun b u v e => ?_, fun b ps e => ?_⟩, I.loc, I.cell, ?_, fun x c e => ?_, fun p hp => ?_, fun b u e => ?_, I.len⟩
  · rw [upd_ne (fun z => by rw [z, n0] at e; cases e)]; exact I.base.free b u e n hx
  · have := I.base.tups b xs e
    rw [upd_ne (ne _ _ this)]; exact this
  · have := I.base.frzs b u v e
    rw [upd_ne (ne _ _ this)]; exact this
  · obtain ⟨more, this⟩ := I.base.tbls b ps e
    exact ⟨more, by rw [upd_ne (ne _ _ this)]; exact this⟩
  · rw [upd_ne nL.symm]; exact I.free
  · rw [upd_ne (nC x c e)]; exact I.freeC x c e
  · obtain ⟨q1, q2, q3⟩ := I.pin p hp
    exact ⟨q1, by rw [upd_ne (nP p hp)]; exact q2, q3⟩
  · by_cases z : b = a
    · subst z
      rw [upd_same] at e
      cases e
      exact new
    · rw [upd_ne z] at e
      exact (I.hok b u e).stay (fun _ _ _ q => q) (fun c q => by rw [upd_ne (ne _ _ q)]; exact q) fun c xs q => by rw [upd_ne (ne _ _ q)]; exact q
theorem Inv.goes {i : Nat} {n : Str} {v : Option Value} {m : Str → Option Value} {t' : Nat} (I : Inv X pins σ H s) (hN : X.N.Nodup) (hi : X.N[i]? = some n) (hk : X.env.kindOf n = some .local) (hn : s.heap.Ns X.env.locals m)
    (hn2 : h2.Ns X.env.locals (fun x => if x = n then v else m x)) (sb : Heap.SameBut X.env.locals s.heap h2) : Inv X pins (σ.set i none) H { s with heap := h2, toks := t' } := by
  have k : ∀ b, b ≠ X.env.locals → h2.get? b = s.heap.get? b := fun b hb => sb.2 b hb
  have nL : ∀ b o, X.s₀.heap.get? b = some o → b ≠ X.env.locals := fun b o e => Nat.ne_of_lt (Nat.lt_of_lt_of_le (Heap.lt_size e) I.ok.above)
  have cellK : ∀ x c, X.env.cells.lookup x = some c → ∀ v, s.heap.IsCell c v → h2.IsCell c v := fun x c e v ⟨o, ho, hd⟩ => ⟨o, (k c (I.cne x c e)).trans ho, hd⟩
  refine ⟨I.ok, I.os, I.bare, ⟨fun b o e n hb hx => (k b (nL b o e)).trans (I.base.keep b o e n hb hx), fun b o e n hb hx => ?_, I.base.free, fun b o e hx => ?_, I.base.tups, I.base.frzs, I.base.tbls⟩, ⟨_, hn2, fun j x u e1 e2 e3 => ?_⟩, fun x c e => ?_, I.free, I.freeC, fun p hp => ?_, fun b u e => ?_, by rw [List.length_set]; exact I.len⟩
  · obtain ⟨sl, e1⟩ := I.base.slot b o e n hb hx
    exact ⟨sl, (k b (nL b o e)).trans e1⟩
  · obtain ⟨o2, e1⟩ := I.base.there b o e hx
    exact ⟨o2, (k b (nL b o e)).trans e1⟩
  · have hj : j ≠ i := fun z => by
      subst z
      by_cases q : j < σ.length
      · rw [List.getElem?_set_self q] at e2; cases e2
      · rw [List.getElem?_eq_none (by rw [List.length_set]; omega)] at e2; cases e2
    rw [List.getElem?_set_ne hj.symm] at e2
    have hxn : x ≠ n := fun z => by
      subst z
      exact hj (nodup_ix hN e1 hi)
    obtain ⟨m0, hn0, hl⟩ := I.loc
    have em : m0 = m := by
      obtain ⟨o1, es1, ep1, a1, b1, _, c1⟩ := hn0
      obtain ⟨o2, es2, ep2, a2, b2, _, c2⟩ := hn
      rw [a1] at a2; cases a2
      rw [b1] at b2; cases b2
      funext y
      rw [← c1 y, ← c2 y]
    subst em
    obtain ⟨w, rw', l⟩ := hl j x u e1 e2 e3
    refine ⟨w, rw', ?_⟩
    rcases l with ⟨l1, l2⟩ | ⟨l1, c, l2, l3⟩
    · exact .inl ⟨l1, by show (if x = n then v else m0 x) = some w; rw [if_neg hxn]; exact l2⟩
    · exact .inr ⟨l1, c, l2, cellK x c l2 _ l3⟩
  · obtain ⟨u, z⟩ := I.cell x c e
    exact ⟨u, cellK x c e u z⟩
  · obtain ⟨e, nn, ne, nf, d⟩ := I.pin p hp
    exact ⟨(k p.1 ne).trans e, nn, ne, nf, d⟩
  · refine (I.hok b u e).stay (fun c w hc q => (k c ?_).trans q) (fun _ q => q) fun _ _ q => q
    intro z
    rcases hc with y | y
    · rw [z] at y; rw [← y, I.free] at e; cases e
    · rw [z, I.free] at y; cases y
end
end L2

namespace Exc
open PySem PySem.Spec PyProof.Rows PySem.W
structure XD1 (K : Frag) (D : Addr) : Prop where
  cls : (clsIn K D).isSome = true
  ty : typeIn K (.ref D) = some (.type "type")
  mb : mroIn K D (.type "BaseException") = some true
theorem sub_type_tuple : isSubtype (.type "type") (.type "tuple") = pure false := by rw [isSubtype_type]; kernel_rfl
theorem exc_match {M : Model} {A : Around} {E : Value → Shared → Prop} {s : Shared} {K : Frag} {x C D : Addr} {ox : Obj} {Q : Bool → Shared → Prop} (X : K.In s.heap) (I : InstAt s.heap x ox C none) (d : XD1 K D) (hs : mroIn K C (.ref D) = some true) (h : Q true s) :
    wpAny M A (excMatches (.ref x) (.ref D)) Q E s := by
  have L0 := I.type (M := M)
  have L1 := looks_typeIn (M := M) X d.ty
  have L2 := looks_mroIn (M := M) X d.mb
  have L3 := looks_mroIn (M := M) X hs
  have L4 : Looks M s.heap (isType (.ref D)) true := by
    obtain ⟨cdD, hcD⟩ := Option.isSome_iff_exists.mp d.cls
    unfold clsIn at hcD
    split at hcD
    · rename_i c' d' cd' sl' ho
      intro A' Q' E' s' k q
      unfold isType loadHead
      exact wpAny_bind (wpAny_loadPart (k _ _ (X _ _ ho)) (wpAny_pure q))
    · cases hcD
  have L5 : Looks M s.heap (isSubtype (.type "type") (.type "tuple")) false := Looks.of_pure sub_type_tuple
  obtain ⟨hh, g, dd, t, os⟩ := s
  unfold excMatches isInstance isExcClass
  repeat (first | lk | wp_step)
  exact h
end Exc

namespace L2
open PySem PySem.Spec PyProof.Rows Exc
section
variable {X : Cx} {k i : Nat} {x n hx : Str} {sp : Sp} {p cpos epos hp hpos pos : Pos} {e : Expr} {es : List Expr} {t : TA} {b0 : Stmt} {suite : List Stmt} {ts : TS} {D : Addr}
end
end L2

namespace L2
open PySem PySem.Spec PyProof.Rows Exc PySem.W
noncomputable def isStrK (e : DictEntry) : Bool := match e.key with | .str _ _ => true | _ => false
section
variable {K : Frag} {C N D : Addr}
theorem ns_mk {h : Heap} {c2 : Value} {d2 : Option Addr} {es : Array DictEntry} {ep : Nat} {sl : Array (Option Value)} (X : K.In h) (l : K.lookup N = some ⟨c2, d2, .dict es ep, sl⟩) (sk : es.toList.all isStrK = true) : h.Ns N (nsFind es) := by
  refine ⟨_, es, ep, X _ _ l, rfl, fun e he => ?_, fun _ => rfl⟩
  have h1 := List.all_eq_true.mp sk e (Array.mem_toList_iff.mpr he)
  unfold isStrK at h1
  split at h1
  · rename_i n t q
    exact ⟨n, t, q⟩
  · cases h1
theorem ns_no {c2 : Value} {d2 : Option Addr} {es : Array DictEntry} {ep : Nat} {sl : Array (Option Value)} {x : Str} (l : K.lookup N = some ⟨c2, d2, .dict es ep, sl⟩) (i : nsIn K N x = some none) : nsFind es x = none := by
  unfold nsIn at i
  rw [l] at i
  simp only at i
  unfold nsFind findBy
  rw [← Array.find?_toList]
  split at i
  · cases i
  · rename_i q; rw [q]; rfl
theorem xcls_mk {nm q : Str} {bs : List Value} {hdct : Bool} {sn : List Str} {sub : List Value} {ab : Bool} {col : Option Bool} {dd : Option Addr} {k0 k1 k2 k3 k5 : Option Value} {newId : String} {bmB : List Value} {c2 c3 c4 : Value} {d2 d3 d4 : Option Addr} {es2 es4 : Array DictEntry} {ep2 ep4 : Nat} {sl2 sl3 sl4 : Array (Option Value)} {cd3 : ClassData}
    (l1 : K.lookup C = some (excClassObj nm q C N bs (.ref D :: bmB) hdct sn sub ab col dd k0 k1 k2 k3 k5 newId)) (l2 : K.lookup N = some ⟨c2, d2, .dict es2 ep2, sl2⟩) (s2 : es2.toList.all isStrK = true) (i2 : nsIn K N "__init__" = some none)
    (l3 : K.lookup D = some ⟨c3, d3, .cls cd3, sl3⟩) (l4 : K.lookup cd3.ns = some ⟨c4, d4, .dict es4 ep4, sl4⟩) (s4 : es4.toList.all isStrK = true) (i4 : nsIn K cd3.ns "__init__" = some none) : XCls K C bmB newId :=
  ⟨_, N, nm, q, bs, hdct, sn, sub, ab, col, dd, k0, k1, k2, k3, k5, nsFind es2, fun h X => ⟨X _ _ l1, ns_mk X l2 s2, ns_no l2 i2, .own (X _ _ l3) (ns_mk X l4 s4) (ns_no l4 i4) .base⟩⟩
theorem kit_ref {cd : ClassData} {b : Bool} (ne : (Value.ref C == Value.ref D) = false) (cl : clsIn K D = some cd) (ty : typeIn K (.ref D) = some (.type "type")) (sb : subIn K (.ref C) (.ref D) = some b) : kitOne K (.ref C) (.ref D) = some b := by
  unfold kitOne
  rw [if_neg (by rw [ne]; decide)]
  unfold kitCls
  simp only [cl, ty, Option.isSome_some, Bool.true_and, beq_self_eq_true, if_true]
  exact sb
theorem kit_self : kitOne K (.ref C) (.ref C) = some true := by
  unfold kitOne
  rw [if_pos (by simp)]
theorem kit_ve {b : Bool} (sb : subIn K (.ref C) (.type "ValueError") = some b) : kitOne K (.ref C) (.type "ValueError") = some b := by
  unfold kitOne
  rw [if_neg (by intro z; cases (beq_iff_eq.mp z))]
  unfold kitCls
  first
    | exact sb
    | (rw [if_pos (by decide +kernel)]; exact sb)
    | (simp only; rw [if_pos (by decide +kernel)]; exact sb)
end
end L2

namespace L2
open PySem PySem.Spec PyProof.Rows Exc
section
variable {P : Program} {w : World} {K : PySem.W.Frag} {mg : Str → Option Value} {base : Heap} {N : List Str} {qual : Str} {scope : Scope} {f : Addr} {cd : Value} {A : Around} {outer : List Env} {s0 : Shared} {H0 : Hp} {E : XK}
variable {k : Nat} {x : Str} {sp : Sp} {p pos : Pos} {e : Expr} {es : List Expr} {t : TA}
end
end L2

namespace Exc
open PySem PyProof.Rows
noncomputable def TbF (h : Heap) (e T : Addr) (cls fl : Value) : Prop :=
  ∃ oe vs oT ts, h.get? e = some oe ∧ oe.cls = cls ∧ oe.dict = none ∧ oe.data = .fields vs ∧ vs[1]? = some (.ref T) ∧ T ≠ e ∧ h.get? T = some oT ∧ oT.data = .fields ts ∧ ts[3]? = some fl
theorem TbAt.f {h : Heap} {e T : Addr} {cls : Value} (x : TbAt h e T cls) : TbF h e T cls .none := x
noncomputable def ExA (h : Heap) (e : Addr) (cls : Value) (Fr : Addr → Prop) : Prop :=
  (∃ oe vs, h.get? e = some oe ∧ oe.cls = cls ∧ oe.dict = none ∧ oe.data = .fields vs ∧ vs[1]? = some .none) ∨ ∃ T fl, Fr T ∧ TbF h e T cls fl
section
variable {M : Model} {A : Around} {E : Value → Shared → Prop} {s : Shared}
theorem entryN {base : Heap} {env : Env} {outer : List Env} {L e : Addr} {oe : Obj} {vs : Array Value} {head : Value} {more : Bool} {Q : Unit → Shared → Prop} (hfr : A.frames = some (env :: outer)) (hl : s.heap.FunFrames base (env :: outer)) (hf : env.frame = some L)
    (he : s.heap.get? e = some oe) (hdi : oe.dict = none) (hd : oe.data = .fields vs) (hsz : 1 < vs.size)
    (h : ∀ h2, Shift ((env :: outer).filterMap (·.frame)) [e] s.heap h2 → TbF h2 e s.heap.objs.size oe.cls (rawInt L) → Q () { s with heap := h2 }) :
    wpAny M A (do let a ← frameOf env; let pl ← entryPlaceOf L more; let b ← EntryCells.newEntry head a .none (rawInt L) .none pl; setField (.ref e) 1 b) Q E s := by
  have k0 : e ∉ (env :: outer).filterMap (·.frame) := fun hm => by
    obtain ⟨_, o, ho, hnf⟩ := hl.mem hm
    rw [he] at ho; injection ho with ho; subst ho; exact hnf vs hd
  refine wpAny_bind (wpAny_frameOf_fun hfr hl hf fun h1 q1 => ?_)
  refine wpAny_bind (wpAny_entryPlaceOf fun pl hpl => ?_)
  unfold EntryCells.newEntry newFields
  refine wpAny_bind (wpAny_newObj_type ?_ (hpl.sizeOk5 _ _ _ _ _))
  have k1 : h1.get? e = some oe := (q1.2.1 e k0).trans he
  have ksz : h1.objs.size = s.heap.objs.size := q1.1
  generalize ht : ({ cls := .type "traceback", dict := none, data := .fields ([head, .ref L, .none, rawInt L, .none] ++ (if pl.isEmpty then List.replicate 6 Value.none else pl)).toArray } : Obj) = tb
  have htd : tb.data = .fields ([head, .ref L, .none, rawInt L, .none] ++ (if pl.isEmpty then List.replicate 6 Value.none else pl)).toArray := by rw [← ht]
  have k2 := Heap.get?_push_of_some (h := h1) tb k1
  have kT0 : (h1.push tb).get? h1.objs.size = some tb := Heap.get?_push_size h1 (by rw [← ht]; rfl)
  refine wpAny_setField k2 hd hsz ?_
  have k3 : h1.objs.size ≠ e := Nat.ne_of_gt (Heap.lt_size k1)
  have k4 := Obj.data_mapFields hd (·.setIfInBounds 1 (Value.ref h1.objs.size))
  have k5 := Heap.get?_update_self (Obj.mapFields (·.setIfInBounds 1 (Value.ref h1.objs.size))) k2 (Obj.isFreed_of_fields k4)
  have k6 := (Heap.get?_update_other (h1.push tb) (Obj.mapFields (·.setIfInBounds 1 (Value.ref h1.objs.size))) (Ne.symm k3)).trans kT0
  have keep : ∀ b o, b ≠ e → h1.get? b = some o → ((h1.push tb).update e (Obj.mapFields (·.setIfInBounds 1 (Value.ref h1.objs.size)))).get? b = some o := fun b o hbe hb => by
    rw [Heap.get?_update_other _ _ (Ne.symm hbe)]
    exact Heap.get?_push_of_some _ hb
  refine h _ ⟨fun b o hb hc q => ?_, fun b o hb hc q => ?_, ?_⟩ ?_
  · exact keep b o (fun z => hc (by simp [z])) ((q1.2.1 b hb).trans q)
  · obtain ⟨sl, q2⟩ := q1.2.2 b o q
    exact ⟨sl, keep b _ (fun z => hc (by simp [z])) q2⟩
  · rw [Heap.size_update, Heap.size_push, ksz]; exact Nat.le_succ _
  · rw [ksz] at k3 k4 k5 k6 ⊢
    exact ⟨_, _, _, _, k5, Obj.cls_mapFields _ _, (dict_mapFields _ _).trans hdi, k4, by simp [hsz], k3, k6, htd, by simp⟩
theorem note_any {base : Heap} {env : Env} {outer : List Env} {L e : Addr} {cls : Value} {Fr : Addr → Prop} {Q : Unit → Shared → Prop} (hfr : A.frames = some (env :: outer)) (hl : s.heap.FunFrames base (env :: outer)) (hf : env.frame = some L) (x : ExA s.heap e cls Fr) (he : Fr e)
    (h : ∀ h2 ch T, Shift ((env :: outer).filterMap (·.frame)) ch s.heap h2 → (∀ b ∈ ch, Fr b) → (Fr T ∨ T = s.heap.objs.size) → TbF h2 e T cls (rawInt L) → Q () { s with heap := h2 }) :
    wpAny M A (noteFrame (.ref e) env) Q E s := by
  rcases x with ⟨oe, vs, hoe, hcls, hdi, hd, h1⟩ | ⟨T, fl, hT, x⟩
  · subst hcls
    unfold noteFrame
    simp only [hf]
    refine wpAny_bind (wpAny_field hoe hd h1 ?_)
    rw [if_neg (by decide)]
    exact entryN hfr hl hf hoe hdi hd (Array.getElem?_eq_some_iff.mp h1).1 fun h2 sh tb => h h2 [e] _ sh (fun b hb => by rw [List.mem_singleton.mp hb]; exact he) (.inr rfl) tb
  · obtain ⟨oe, vs, oT, ts, hoe, hcls, hdi, hd, h1, hTe, hoT, hdT, h3⟩ := id x
    subst hcls
    unfold noteFrame
    simp only [hf]
    refine wpAny_bind (wpAny_field hoe hd h1 ?_)
    rw [if_pos (show (Value.ref T != Value.none) = true from by simp)]
    refine wpAny_bind (wpAny_field hoT hdT h3 ?_)
    by_cases q : (fl == rawInt L) = true
    · rw [if_pos q]
      have e0 : fl = rawInt L := by simpa using q
      subst e0
      refine wpAny_pure (h s.heap [] T ⟨fun _ _ _ _ e => e, fun _ o _ _ e => ⟨o.slots, e⟩, Nat.le_refl _⟩ (fun _ hb => (nomatch hb)) (.inl hT) x)
    rw [if_neg q]
    refine wpAny_bind (wpAny_setField hoT hdT (Array.getElem?_eq_some_iff.mp h3).1 ?_)
    have other : ∀ b, b ≠ T → (s.heap.update T (Obj.mapFields (·.setIfInBounds 3 Value.none))).get? b = s.heap.get? b := fun b hb => Heap.get?_update_other _ _ (Ne.symm hb)
    have norec : ∀ b o, s.heap.get? b = some o → (∀ vs, o.data ≠ .fields vs) → b ≠ T := fun b o hb hnf q => by
      rw [q, hoT] at hb; injection hb with hb; subst hb; exact hnf ts hdT
    have hz : (s.heap.update T (Obj.mapFields (·.setIfInBounds 3 Value.none))).objs.size = s.heap.objs.size := Heap.size_update ..
    refine entryN (s := { s with heap := s.heap.update T (Obj.mapFields (·.setIfInBounds 3 Value.none)) }) hfr (hl.of_keeps fun b o hb hnf => ⟨o, (other b (norec b o hb hnf)).trans hb, rfl⟩) hf ((other e (Ne.symm hTe)).trans hoe) hdi hd (Array.getElem?_eq_some_iff.mp h1).1 fun h2 q1 q2 => ?_
    refine h h2 [T, e] _ ⟨fun b o hb hc q => ?_, fun b o hb hc q => ?_, ?_⟩ (fun b hb => ?_) (.inr hz) q2
    · exact q1.1 b o hb (fun z => hc (List.mem_cons_of_mem _ z)) ((other b fun z => hc (by simp [z])).trans q)
    · exact q1.2.1 b o hb (fun z => hc (List.mem_cons_of_mem _ z)) ((other b fun z => hc (by simp [z])).trans q)
    · have := q1.2.2; rw [hz] at this; exact this
    · rcases List.mem_cons.mp hb with rfl | hb
      · exact hT
      · rw [List.mem_singleton.mp hb]; exact he
theorem flight_any {fr : List Addr} {e T : Addr} {cls fl : Value} {f : Option Addr} {Q : Unit → Shared → Prop} (x : TbF s.heap e T cls fl)
    (h : ∀ h2, Shift fr [T] s.heap h2 → TbF h2 e T cls (f.elim Value.none fun f => rawInt f) → Q () { s with heap := h2 }) : wpAny M A (setFlight (.ref e) f) Q E s := by
  obtain ⟨oe, vs, oT, ts, hoe, hcls, hdi, hd, h1, hTe, hoT, hdT, h3⟩ := x
  unfold setFlight
  refine wpAny_bind (wpAny_field hoe hd h1 ?_)
  rw [if_pos (show (Value.ref T != Value.none) = true from by simp)]
  have h3s := (Array.getElem?_eq_some_iff.mp h3).1
  refine wpAny_setField hoT hdT h3s ?_
  have k4 := Obj.data_mapFields hdT (·.setIfInBounds 3 (f.elim Value.none fun f => rawInt f))
  have other : ∀ b, b ≠ T → (s.heap.update T (Obj.mapFields (·.setIfInBounds 3 (f.elim Value.none fun f => rawInt f)))).get? b = s.heap.get? b := fun b hb => Heap.get?_update_other _ _ (Ne.symm hb)
  refine h _ ⟨fun b o _ hb q => (other b (by simpa using hb)).trans q, fun b o _ hb q => ⟨o.slots, (other b (by simpa using hb)).trans q⟩, by rw [Heap.size_update]; exact Nat.le_refl _⟩ ?_
  exact ⟨oe, vs, _, _, (other e (Ne.symm hTe)).trans hoe, hcls, hdi, hd, h1, hTe, Heap.get?_update_self _ hoT (Obj.isFreed_of_fields k4), k4, by simp [h3s]⟩
theorem note_congr {env env' : Env} (h : env.frame = env'.frame) (e : Value) : noteFrame e env = noteFrame e env' := by
  unfold noteFrame PySem.frameOf
  rw [h]
end
end Exc

namespace L2
open PySem PySem.Spec PyProof.Rows Exc
noncomputable def PinEx (X : Cx) : Prop := ∀ b ∈ X.ex, ∃ o, (b, o) ∈ X.pn
noncomputable def Frs (X : Cx) (pins : List (Addr × Obj)) (H : Hp) (b : Addr) : Prop := X.s₀.heap.get? b = none ∧ H b = none ∧ b ≠ X.env.locals ∧ (∀ x c, X.env.cells.lookup x = some c → c ≠ b) ∧ ∀ p ∈ X.pn ++ pins, p.1 ≠ b
noncomputable def Fly (X : Cx) (E : XK) : Value → Shared → Prop := fun e s' => ∃ (ea : Addr) (cls : Value) (pins : List (Addr × Obj)) (σ : St) (H : Hp), e = .ref ea ∧ Inv X pins σ H s' ∧ ExA s'.heap ea cls (Frs X pins H) ∧ Frs X pins H ea ∧ E cls none H
noncomputable def Fly1 (X : Cx) (E : XK) (fl : Value) : Value → Shared → Prop := fun e s' => ∃ (ea T : Addr) (cls : Value) (pins : List (Addr × Obj)) (σ : St) (H : Hp), e = .ref ea ∧ Inv X pins σ H s' ∧ Frs X pins H T ∧ TbF s'.heap ea T cls fl ∧ Frs X pins H ea ∧ E cls none H
section
variable {X : Cx} {pins : List (Addr × Obj)} {σ : St} {H : Hp} {s : Shared} {E : XK} {e fl : Value} {s' : Shared} {b : Addr}
theorem frs_fresh (hp : PinEx X) (I : Inv X pins σ H s) (z : s.heap.get? b = none) : Frs X pins H b := by
  refine ⟨?_, I.hok.none_of z, ?_, fun y c e w => ?_, fun p hp w => ?_⟩
  · cases q : X.s₀.heap.get? b with
    | none => rfl
    | some o =>
      exfalso
      by_cases hx : b ∈ X.ex
      · obtain ⟨o2, h2⟩ := hp b hx
        have := (I.pin (b, o2) (List.mem_append_left _ h2)).1
        rw [z] at this; cases this
      · obtain ⟨o2, w⟩ := I.base.there b o q hx
        rw [z] at w; cases w
  · intro w
    obtain ⟨m, ⟨o, _, _, ho, _⟩, _⟩ := I.loc
    rw [← w, z] at ho; cases ho
  · obtain ⟨v, o, ho, _⟩ := I.cell y c e
    rw [w, z] at ho; cases ho
  · have := (I.pin p hp).1
    rw [w, z] at this; cases this
theorem Fly1.fly (h : Fly1 X E fl e s') : Fly X E e s' := by
  obtain ⟨ea, T, cls, pins, σ, H, rfl, I, hT, tb, hE, q⟩ := h
  exact ⟨ea, cls, pins, σ, H, rfl, I, .inr ⟨T, fl, hT, tb⟩, hE, q⟩
theorem fly_pass (hp : PinEx X) : Passes (CX1 X.prog X.w) (X.wish (Fly X E)) E := by
  intro pins σ H s e s' I h
  have I := I.unwish
  obtain ⟨ea, T, cls, H2, rfl, os, bare, un, hok, tb, n1, n2, z1, z2, q⟩ := h
  have I2 : Inv X pins σ H2 s' := I.call' os un hok bare (ch := []) (fun b z => nomatch z)
  obtain ⟨a1, _, a2, a3, a4⟩ := frs_fresh hp I n1
  obtain ⟨b1, _, b2, b3, b4⟩ := frs_fresh hp I n2
  exact ⟨ea, cls, pins, σ, H2, rfl, I2, .inr ⟨T, _, ⟨b1, z2, b2, b3, b4⟩, tb.f⟩, ⟨a1, z1, a2, a3, a4⟩, q⟩
variable {fenv : Env} {outer : List Env} {L : Addr} {Eo : Value → Shared → Prop} {Q : Unit → Shared → Prop}
theorem fly_note (hp : PinEx X) (hX : X.stack = fenv :: outer) (hf : fenv.frame = some L) (he : X.env.frame = some L) (h : Fly X E e s') (hQ : ∀ s'', Fly1 X E (rawInt L) e s'' → Q () s'') : wpAny (model X.prog X.w) X.A (noteFrame e X.env) Q Eo s' := by
  obtain ⟨ea, cls, pins, σ, H, rfl, I, x, hE, q⟩ := h
  rw [note_congr (he.trans hf.symm)]
  refine note_any (base := X.base) (by rw [← hX]; exact I.ok.frames) (by rw [← hX]; exact I.stack) hf x hE fun h2 ch T sh hch hT tb => hQ _ ?_
  have J : Inv X pins σ H { s' with heap := h2 } := I.shift (t' := s'.toks) (ch := ch) (by unfold frs; rw [hX]; exact sh) fun b hb => hch b hb
  refine ⟨ea, T, cls, pins, σ, H, rfl, J, ?_, tb, hE, q⟩
  rcases hT with hT | rfl
  · exact hT
  · exact frs_fresh hp I (by
      cases z : s'.heap.get? s'.heap.objs.size with
      | none => rfl
      | some o => exact absurd (Heap.lt_size z) (Nat.lt_irrefl _))
theorem fly_flight {f : Option Addr} {M : Model} {A : Around} (h : Fly1 X E fl e s') (hQ : ∀ s'', Fly1 X E (f.elim Value.none fun f => rawInt f) e s'' → Q () s'') : wpAny M A (setFlight e f) Q Eo s' := by
  obtain ⟨ea, T, cls, pins, σ, H, rfl, I, hT, tb, hE, q⟩ := h
  refine flight_any (fr := frs X.stack) tb fun h2 sh tb2 => hQ _ ?_
  exact ⟨ea, T, cls, pins, σ, H, rfl, I.shift (t' := s'.toks) (ch := [T]) sh fun b hb => by rw [List.mem_singleton.mp hb]; exact hT, hT, tb2, hE, q⟩
theorem fly_field {M : Model} {A : Around} {Q : Value → Shared → Prop} (h : Fly1 X E fl e s') (hQ : ∀ T, Q (.ref T) s') : wpAny M A (field e 1) Q Eo s' := by
  obtain ⟨ea, T, cls, pins, σ, H, rfl, I, hT, ⟨oe, vs, oT, ts, hoe, hcls, hdi, hd, h1, _⟩, hE, q⟩ := h
  exact wpAny_field hoe hd h1 (hQ T)
theorem fly_own (hp : PinEx X) (hX : X.stack = fenv :: outer) (hf : fenv.frame = some L) (he : X.env.frame = some L) : PassesOwn (model X.prog X.w) X.A X.env (Fly X E) := by
  intro e s' h
  unfold notedBy
  refine fly_note hp hX hf he h fun s2 h2 => ?_
  unfold cameBackBy
  refine wpAny_bind (fly_field h2 fun T => ?_)
  rw [if_neg (by simp)]
  exact fly_flight h2 fun s3 h3 => h3.fly
end
section
variable {P : Program} {w : World} {K : PySem.W.Frag} {mg : Str → Option Value} {base : Heap} {N : List Str} {qual : Str} {scope : Scope} {f C : Addr} {cd : Value} {A : Around} {outer : List Env} {s0 : Shared} {H0 : Hp} {E : XK} {x : Str} {np cpos pos : Pos} {e : Expr} {te : TE}
theorem pin_fn : PinEx (cxOf (CX1 P w) P w K mg base N qual scope f cd A outer s0 H0 E) := fun b hb => absurd (show b ∈ ([] : List Addr) from hb) (by simp)
theorem fly_leave {e : Value} {s' : Shared} (h : Fly (cxOf (CX1 P w) P w K mg base N qual scope f cd A outer s0 H0 E) E e s') : (cxOf (CX1 P w) P w K mg base N qual scope f cd A outer s0 H0 E).xe e s' := by
  show wpAny (model P w) (A.deeper (envOfC qual scope s0.heap.objs.size f cd)) (leaving (envOfC qual scope s0.heap.objs.size f cd) e) _ _ _
  unfold leaving
  refine wpAny_bind (fly_note (X := cxOf (CX1 P w) P w K mg base N qual scope f cd A outer s0 H0 E) (L := s0.heap.objs.size) pin_fn rfl rfl rfl h fun s2 h2 => ?_)
  refine fly_flight h2 fun s3 h3 => ?_
  obtain ⟨ea, T, cls, pins, σ, H, rfl, I, ⟨t1, t2, _⟩, tb, ⟨a1, a2, _⟩, q⟩ := h3
  exact ⟨ea, T, cls, H, rfl, I.os, I.bare, I.base, I.hok, tb, a1, t1, a2, t2, q⟩
theorem PSs.fly {st : List Stmt} {t : TS} (h : PSs ((cxOf (CX1 P w) P w K mg base N qual scope f cd A outer s0 H0 E).wish (Fly (cxOf (CX1 P w) P w K mg base N qual scope f cd A outer s0 H0 E) E)) st t) : PSs (cxOf (CX1 P w) P w K mg base N qual scope f cd A outer s0 H0 E) st t := fun pins s σ H D I hw =>
  wpAny_mono (h pins s σ H D (I.wish _) hw) (fun _ _ q => q.unwish) fun _ _ z => fly_leave z
end
section
variable {X : Cx} {C : Addr} {E : XK} {x : Str} {np cpos pos : Pos} {e : Expr} {te : TE} {k : Nat} {sp : Sp} {p : Pos} {es : List Expr} {t : TA}
theorem ps_raiseF (hp : PinEx X) (hcalm : X.calm = true) (xc : XCls X.K C [.type "ValueError", .type "Exception", .type "BaseException", .type "object"] "ValueError.__new__") (hm : X.mg x = some (.ref C)) (hg : Gl (X.wish (Fly X E)) x) (he : PE (X.wish (Fly X E)) e te) (hdb : (x == ("__debug__" : Str)) = false := by decide)
    (hst : starEach [e] X.env = [(false, eval e X.env)] := by rfl) : PS (X.wish (Fly X E)) (.Raise (some (.Call (.Name x np) [e] [] cpos)) none pos) (tRaise C E te) := by
  intro pins s σ H D I h
  obtain ⟨bm, Nn, nm, q, bs, hdct, sn, sub, ab, col, dd, k0, k1, k2, k3, k5, mN, hC⟩ := xc.obj
  have hC0 := hC s.heap I.kIn
  refine wpAny_Raise_call_subU (C := C) (nm := nm) (q := q) (N := Nn) (bs := bs) (bm := bm) (hdct := hdct) (sn := sn) (sub := sub) (ab := ab) (col := col) (dd := dd) (k0 := k0) (k1 := k1) (k2 := k2) (k3 := k3) (k5 := k5)
    PySem.F.excBase_ValueError (by decide) PySem.F.excBase_ValueError (mN := mN) (hC0.2.2.2.hasType (by decide)) (I.ok.hd hcalm) (by rw [hst]; rfl) hC0.2.2.1 (ld_glob I hg hm ⟨rfl, ?_⟩ hdb)
  have pa : PA (X.wish (Fly X E)) [e] (tCons te tNil) := pa_cons he pa_nil hst
  have hst2 : backTo cpos (starEach [e] X.env) = [(false, eval e X.env)] := by rw [hst]; rfl
  rw [hst2]
  refine Calls.evalArgs_plain ?_
  rw [← hst2]
  refine thn (pa cpos pins s σ H (fun vs H1 => vs.length ≤ 1 ∧ E (.ref C) none H1) I ?_) fun us s1 ⟨vs, H1, I1, r1, hv, q1⟩ => ?_
  · have mono : te σ H (fun _ H1 => E (.ref C) none H1) := h
    show te σ H fun x H1 => [x].length ≤ 1 ∧ E (.ref C) none H1
    have e0 : (fun (x : V) (H1 : Hp) => [x].length ≤ 1 ∧ E (.ref C) none H1) = fun _ H1 => E (.ref C) none H1 := by
      funext x H1
      exact propext ⟨fun z => z.2, fun z => ⟨Nat.le_refl _, z⟩⟩
    rw [e0]; exact mono
  have hC1 := hC s1.heap I1.kIn
  refine ⟨rfl, by show us.length ≤ sizeLine; rw [← r1.length]; exact Nat.le_trans hv (by decide), hC1.1, hC1.2.1, hC1.2.2.2, fun h2 ea hx => ?_⟩
  obtain ⟨t, ht, _, _⟩ := hx.there
  have I2 : Inv X pins σ H1 { s1 with heap := h2 } := I1.unwish.kept (t' := s1.toks) hx.keeps
  exact ⟨ea, .ref C, pins, σ, H1, rfl, I2, .inl ⟨_, _, ht, rfl, rfl, rfl, rfl⟩, frs_fresh hp I1.unwish hx.new, q1⟩
theorem pe_calF (hp : PinEx X) (c : CalX X.prog X.w X.K X.mg X.base x k sp) (hr : Room k X.A) (hg : Gl (X.wish (Fly X E)) x) (ha : PA (X.wish (Fly X E)) (e :: es) t) (hdb : (x == ("__debug__" : Str)) = false := by decide)
    (he : starEach (e :: es) X.env = (false, eval e X.env) :: starEach es X.env := by rfl) (hpl : (backTo pos (starEach es X.env)).any (·.1) = false := by rfl) : PE (X.wish (Fly X E)) (.Call (.Name x p) (e :: es) [] pos) (tCall sp [] E t) := by
  obtain ⟨f, fd, ps, hm, F, hk, hb⟩ := c
  exact pe_call (X := X.wish (Fly X E)) F hr hg hm hk hb .nil (fly_pass hp) ha hdb he hpl
end
end L2

namespace L2
open PySem PySem.Spec PyProof.Rows Exc
section
variable {prog : Program} {w : World} {A : Around} {R : Result → Shared → Prop} {s : Shared}
theorem compLoop_F {elt target iter : Expr} {ifs : List Expr} {scope : Scope} {pos : Pos} {it acc : Value} {env : Env} (I : Nat → Shared → Prop)
    (turn : ∀ n s, I n s → wpAny (model prog w) A (pyNext it) (fun r s₁ => match r with
      | none => R (.ok .next) s₁
      | some v => wpAny (model prog w) A (letOwnedTupleGo target it v) (fun _ s₁' => wpAny (model prog w) A (assign target env v) (fun _ s₂ =>
          wpAny (model prog w) A (forIn ifs true fun c r => if r = true then do let ok ← isTrue c env (eval c env); pure (ForInStep.yield ok) else pure (ForInStep.yield r)) (fun ok s₃ =>
            if ok = true then wpAny (model prog w) A (eval elt env) (fun x s₄ =>
              wpAny (model prog w) A (call (.builtin "list.append") [acc, x]) (fun _ s₅ => ∃ m, m < n ∧ I m s₅) (fun _ _ => False) s₄) (notedBy (model prog w) A env fun x s' => R (.error x) s') s₃
            else ∃ m, m < n ∧ I m s₃) (fun _ _ => False) s₂) (fun _ _ => False) s₁') (fun _ _ => False) s₁) (fun _ _ => False) s)
    (n : Nat) (h : I n s) : codeAny (model prog w) A (.compLoop (.ListComp elt [⟨target, iter, ifs, 0⟩] scope pos) 0 it acc env) R s := by
  refine codeAny_loop rfl I (fun n s hI => ?_) n h
  show wpAny _ A ((compTurn (.ListComp elt [⟨target, iter, ifs, 0⟩] scope pos) 0 it acc env).onRaise (fun x => do noteFrame x env; theTreesLotGoes x)) _ _ s
  refine wpAny_noted ?_
  rw [compTurn_list]
  refine wpAny_bind (wpAny_standAt (wpAny_bind (wpAny_mono (turn n s hI) (fun r s₁ h₁ => ?_) fun _ _ h' => h'.elim)))
  cases r with
  | none => exact wpAny_pure h₁
  | some v =>
    refine wpAny_bind (wpAny_mono h₁ (fun _ s₁' h₁' => ?_) fun _ _ h' => h'.elim)
    refine wpAny_bind (wpAny_mono h₁' (fun _ s₂ h₂ => wpAny_bind (wpAny_mono h₂ (fun ok s₃ h₃ => ?_) fun _ _ h' => h'.elim)) fun _ _ h' => h'.elim)
    cases ok with
    | false => exact wpAny_pure ⟨rfl, h₃⟩
    | true =>
      exact wpAny_bind (wpAny_bind (wpAny_mono h₃ (fun x s₄ h₄ => wpAny_bind (wpAny_mono h₄ (fun _ s₅ h₅ => wpAny_pure (wpAny_pure ⟨rfl, h₅⟩)) fun _ _ h' => h'.elim)) fun _ _ h' => h'))
end
noncomputable abbrev Cx.inner2 (X : Cx) (scope : Scope) (own : List Str) (ix : List Nat) (C : Addr) (s : Shared) (H : Hp) (fp : List Addr) (P : List (Addr × Obj)) : Cx := { X.inner scope own ix C s H fp with pn := P }
section
variable {X : Cx} {pins P : List (Addr × Obj)} {σ σ' : St} {H H' : Hp} {s s' : Shared} {scope : Scope} {own : List Str} {ix : List Nat} {fp : List Addr} {C : Addr} {E : XK}
theorem Inv.to2 (I : Inv (X.inner scope own ix C s H fp) ([] ++ P) σ' H' s') : Inv (X.inner2 scope own ix C s H fp P) [] σ' H' s' :=
  ⟨⟨I.ok.mod, I.ok.kind, I.ok.glob, I.ok.blt, I.ok.above, I.ok.inj, I.ok.has, I.ok.cab, I.ok.hd, I.ok.frames, I.ok.stk, I.ok.exf, I.ok.bs, I.ok.bsz, I.ok.noex, I.ok.exfs, I.ok.funs, I.ok.frf⟩, I.os, I.bare, I.base, I.loc, I.cell, I.free, I.freeC, fun p hp => I.pin p (by
    have hp : p ∈ P ++ [] := hp
    show p ∈ [] ++ ([] ++ P)
    simpa using hp), I.hok, I.len⟩
theorem Inv.of2 {pins2 : List (Addr × Obj)} (I : Inv (X.inner2 scope own ix C s H fp P) pins2 σ' H' s') : Inv (X.inner scope own ix C s H fp) ([] ++ P) σ' H' s' :=
  ⟨⟨I.ok.mod, I.ok.kind, I.ok.glob, I.ok.blt, I.ok.above, I.ok.inj, I.ok.has, I.ok.cab, I.ok.hd, I.ok.frames, I.ok.stk, I.ok.exf, I.ok.bs, I.ok.bsz, I.ok.noex, I.ok.exfs, I.ok.funs, I.ok.frf⟩, I.os, I.bare, I.base, I.loc, I.cell, I.free, I.freeC, fun p hp => I.pin p (by
    have hp : p ∈ [] ++ ([] ++ P) := hp
    show p ∈ P ++ pins2
    exact List.mem_append_left _ (by simpa using hp)), I.hok, I.len⟩
theorem comp_blockF {elt tg iter : Expr} {ifs : List Expr} {pos : Pos} {J : It} {it L : Addr} {tn : Nat → Heap → Prop} {g : TG} {tc : TT} {te : TE} {Eo : Value → Shared → Prop} {Q : Addr → Hp → Prop} {RR : Value → Addr → Result → Shared → Prop} {fenv : Env} {outer : List Env}
    (B : Blk X scope own ix) (hc : X.calm = true) (ho : GOwn own.length g) (hX : X.stack = fenv :: outer) (hfe : fenv.frame = some L) (hXe : X.env.frame = some L)
    (hg : ∀ C s H fp, PG (X.inner scope own ix C s H fp) tg g) (hi : ∀ C s H fp, PIfs (X.inner scope own ix C s H fp) ifs tc)
    (he : ∀ C s H fp P, PinEx (X.inner2 scope own ix C s H fp P) → PE ((X.inner2 scope own ix C s H fp P).wish (Fly (X.inner2 scope own ix C s H fp P) E)) elt te)
    (I : Inv X pins σ H s) (T : Turn X.prog X.w X.K tg J fp it tn) (t0 : tn 0 s.heap) (hf : ∀ b ∈ fp, FpOk X pins H b)
    (h : ∀ D, H D = none → Comps own ix g tc te σ J H D (Q D))
    (hRR : ∀ D C H' σ' s', Inv (X.inner scope own ix C s H fp) [] σ' H' s' → s.heap.objs.size ≤ C → Q D H' → RR (.ref D) C (.ok .next) s')
    (hRE : ∀ D C P e s', s.heap.objs.size ≤ C → Fly1 (X.inner2 scope own ix C s H fp P) E (rawInt L) e s' → RR (.ref D) C (.error e) s') :
    wpAny (model X.prog X.w) X.A (newList []) (fun acc s₃ => wpAny (model X.prog X.w) X.A (newFunctionEnv scope X.env.globals (clos X.env.cells scope.names []) [] X.env.qual none .none (some X.env)) (fun cenv s₄ =>
      codeAny (model X.prog X.w) X.A (.compStart (.ListComp elt [⟨tg, iter, ifs, 0⟩] scope pos) 0 (.ref it) acc { cenv with scope := relabel scope X.env }) (RR acc cenv.locals) s₄) Eo s₃) Eo s := by
  refine wpAny_newObj_type (wpAny_newFunctionEnv B.nocell (by intro y hy; simp at hy) (fun h₁ hns₁ hsb₁ => ?_) B.kind)
  dsimp only at hns₁ hsb₁ ⊢
  generalize hH2 : s.heap.push { cls := .type "list", dict := none, data := .seq ([] : List Value).toArray } = H2 at hns₁ hsb₁ ⊢
  have hC : H2.objs.size = s.heap.objs.size + 1 := by rw [← hH2, Heap.size_push]
  have hDC : s.heap.objs.size ≠ H2.objs.size := by rw [hC]; exact Nat.ne_of_lt (Nat.lt_succ_self _)
  have below : ∀ b, b < s.heap.objs.size → b ≠ H2.objs.size := fun b hb => by rw [hC]; exact Nat.ne_of_lt (Nat.lt_succ_of_lt hb)
  have old : ∀ b o, s.heap.get? b = some o → h₁.get? b = some o := fun b o e => hsb₁.extBut b o (below b (Heap.lt_size e)) (Heap.get?_push_of_some _ (hH2 ▸ Heap.get?_push_of_some _ e))
  have hacc : h₁.get? s.heap.objs.size = some { cls := .type "list", data := .seq ([] : List Value).toArray } := hsb₁.extBut _ _ hDC (Heap.get?_push_of_some _ (hH2 ▸ Heap.get?_push_size _ rfl))
  have hfo : ∀ b ∈ fp, ∃ o, s.heap.get? b = some o := fun b hb => by
    obtain ⟨o, e, _⟩ := T.obj _ _ t0 b hb
    exact ⟨o, e⟩
  obtain ⟨W, ⟨m0, w0⟩, turn⟩ := h s.heap.objs.size (I.hok.fresh (Nat.le_refl _))
  have I1 := B.start (fp := fp) (tk := s.toks + ([] : List (Str × Value)).length) I hf hfo rfl hC old hacc hns₁
  have t1 : tn 0 h₁ := T.keep _ _ _ t0 fun b _ o e => old b o e
  have f1 : ∀ b ∈ fp, (upd H s.heap.objs.size (.lst [])) b = none := fun b hb => by
    obtain ⟨o, e⟩ := hfo b hb
    rw [upd_ne (Nat.ne_of_lt (Heap.lt_size e))]
    exact (hf b hb).1
  have stat : ∀ {H' : Hp}, (∀ b ∈ fp, H' b = none) → ∀ b ∈ fp, FpOk (X.inner scope own ix H2.objs.size s H fp) [] H' b := fun hn b hb => by
    obtain ⟨q1, q2⟩ := I1.ok.exf b hb
    exact ⟨hn b hb, q1, I1.ok.exfs b hb, .inl hb, q2, fun p hp => absurd (show p ∈ ([] : List (Addr × Obj)) from hp) (by simp)⟩
  have loop : ∀ s₃ : Shared, s₃ = { s with heap := h₁, toks := s.toks + ([] : List (Str × Value)).length } →
      codeAny (model X.prog X.w) X.A (.compLoop (.ListComp elt [⟨tg, iter, ifs, 0⟩] scope pos) 0 (.ref it) (.ref s.heap.objs.size) (compEnvC scope (clos X.env.cells scope.names []) H2.objs.size X.env))
        (RR (.ref s.heap.objs.size) H2.objs.size) s₃ := by
    rintro s₃ rfl
    refine compLoop_F (fun n s' => ∃ i Hi, Inv (X.inner scope own ix H2.objs.size s H fp) [] (inS own ix σ) Hi s' ∧ tn i s'.heap ∧ (∀ b ∈ fp, Hi b = none) ∧ W i n Hi) ?_ m0 ⟨0, _, I1, t1, f1, w0⟩
    rintro n s3 ⟨i, H3, I3, st3, fr3, w3⟩
    rcases turn i n H3 w3 with ⟨stop, q⟩ | ⟨go, step⟩
    · refine thn (T.done (X.inner scope own ix H2.objs.size s H fp) rfl rfl rfl hc i [] s3 _ H3 _ I3 (stat fr3) st3 stop) fun r s4 ⟨hr, I4⟩ => ?_
      subst hr
      exact hRR _ _ _ _ _ I4 (by rw [hC]; exact Nat.le_succ _) q
    · refine thn (T.item (X.inner scope own ix H2.objs.size s H fp) rfl rfl rfl hc i [] s3 _ H3 _ I3 (stat fr3) st3 go) fun r s4 ⟨u, hr, h4⟩ => ?_
      subst hr
      refine thn h4 fun _ s5 ⟨x, H5, I5, r5, y5, st5, fr5⟩ => ?_
      have I5' := I5.pinned (stat fr5) (T.obj _ _ st5)
      refine thn (hg _ _ _ _ _ s5 _ H5 x u _ I5' r5 (ho _ _ _ _ (step x H5 y5))) fun _ s6 ⟨σ6, H6, I6, ⟨l6, o6⟩, q6⟩ => ?_
      refine thn (hi _ _ _ _ _ s6 σ6 H6 _ I6 q6) fun b s7 ⟨H7, I7, q7⟩ => ?_
      have again : ∀ {H' : Hp} {s' : Shared}, Inv (X.inner scope own ix H2.objs.size s H fp) ([] ++ pinsAt fp s5.heap) σ6 H' s' → (∃ m', m' < n ∧ W (i + 1) m' H') →
          ∃ m, m < n ∧ ∃ i Hi, Inv (X.inner scope own ix H2.objs.size s H fp) [] (inS own ix σ) Hi s' ∧ tn i s'.heap ∧ (∀ b ∈ fp, Hi b = none) ∧ W i m Hi := fun {H' s'} J w => by
        obtain ⟨m', hm, w⟩ := w
        refine ⟨m', hm, i + 1, H', J.unpinned.weak l6.symm (inS_weak l6 o6), T.keep _ _ _ st5 fun b hb o e => (J.pin (b, o) (List.mem_append_right _ (List.mem_append_right _ (mem_pinsAt hb e)))).1, fun b hb => ?_, w⟩
        obtain ⟨o, e, d⟩ := T.obj _ _ st5 b hb
        exact (J.pin (b, o) (List.mem_append_right _ (List.mem_append_right _ (mem_pinsAt hb e)))).2.1
      cases b with
      | false =>
        rw [if_neg Bool.false_ne_true] at q7
        rw [if_neg Bool.false_ne_true]
        exact again I7 q7
      | true =>
        rw [if_pos rfl] at q7
        rw [if_pos rfl]
        have px : PinEx (X.inner2 scope own ix H2.objs.size s H fp (pinsAt fp s5.heap)) := fun b hb => by
          obtain ⟨o, e, d⟩ := T.obj _ _ st5 b hb
          exact ⟨o, mem_pinsAt hb e⟩
        refine wpAny_mono (he _ _ _ _ _ px [] s7 σ6 H7 _ (I7.to2.wish _) q7) (fun v s8 ⟨y, H8, I8, r8, ys, e8, z8, w8⟩ => ?_) fun e s8 z8 => ?_
        · have I8 := I8.unwish.of2
          refine thn (mt_append (X := X.inner scope own ix H2.objs.size s H fp) _ s8 σ6 H8 (.ref s.heap.objs.size) [y] (.ref s.heap.objs.size) [v] (fun _ H' => ∃ m', m' < n ∧ W (i + 1) m' H') I8 rfl (.cons r8 .nil) ⟨_, ys, y, rfl, rfl, e8, z8, w8⟩) fun _ s9 ⟨_, H9, I9, _, w9⟩ => ?_
          exact again I9 w9
        · exact fly_note (X := X.inner2 scope own ix H2.objs.size s H fp (pinsAt fp s5.heap)) px hX hfe hXe z8 fun s9 h9 => hRE _ _ _ _ _ (by rw [hC]; exact Nat.le_succ _) h9
  exact codeAny_compStart_list (loop _ rfl) (T.self _ 0 _ _ _ t1 (loop _ rfl))
theorem ps_compF {elt tg iter : Expr} {ifs : List Expr} {pos spos py : Pos} {wi : TI} {g : TG} {tc : TT} {te : TE} {i : Nat} {y : Str} {L : Addr} {fenv : Env} {outer : List Env} (hp : PinEx X) (own : List Str) (ix : List Nat) (B : Blk X scope own ix) (hc : X.calm = true) (ho : GOwn own.length g) (hX : X.stack = fenv :: outer) (hfe : fenv.frame = some L) (hXe : X.env.frame = some L) (hN : X.N.Nodup) (hy : X.N[i]? = some y) (hx : X.env.scope.names.lookup y = some .local)
    (hsw : swapsWith (.ListComp elt [⟨tg, iter, ifs, 0⟩] scope pos) (some (.Name y py)) spos.line X.env = pure true) (hw : PI (X.wish (Fly X E)) tg iter wi)
    (hg : ∀ C s H fp, PG (X.inner scope own ix C s H fp) tg g) (hi : ∀ C s H fp, PIfs (X.inner scope own ix C s H fp) ifs tc)
    (he : ∀ C s H fp P, PinEx (X.inner2 scope own ix C s H fp P) → PE ((X.inner2 scope own ix C s H fp P).wish (Fly (X.inner2 scope own ix C s H fp P) E)) elt te)
    (hs : ∀ x, foldedSetIterable iter X.env x = pure x := by intro _; rfl) : PS (X.wish (Fly X E)) (.Assign [.Name y py] (.ListComp elt [⟨tg, iter, ifs, 0⟩] scope pos) spos) (tAsg (tComp own ix wi g tc te) (gName i)) := by
  intro pins s σ H D I h
  show wpAny (model X.prog X.w) X.A (exec _ X.env) _ _ _
  rw [exec_Assign_Name_used _ _ _ _ hsw]
  refine wpAny_bind (wpAny_standAt (wpAny_bind ?_))
  show wpAny _ X.A (do let _ ← comprehension (.ListComp elt [⟨tg, iter, ifs, 0⟩] scope pos) scope X.env _ (newList []) false (eval iter X.env) (some (assign (.Name y py) X.env))) _ _ s
  refine wpAny_bind (wpAny_mono (wpAny_comprehension_free (use := some (assign (.Name y py) X.env)) (Q := fun _ s' => SP (X.wish (Fly X E)) pins D .next s') rfl hs (closure_eq (B.cells I.unwish.ok)) B.kind B.loc
    (thn (hw pins s σ H _ I h) fun v s1 h1 => thn h1 fun itv s2 h2 => ?_)) (fun _ s' hq => wpAny_pure (wpAny_pure hq)) fun _ _ e => e)
  obtain ⟨it, fp, tn, J, H2, e, I2, T, st2, f2, R⟩ := h2
  subst e
  have I2 := I2.unwish
  have f2 : ∀ b ∈ fp, FpOk X pins H2 b := f2
  refine comp_blockF B hc ho hX hfe hXe hg hi he I2 T st2 f2 R (fun D' C H' σ' s' J' hC q => ?_) fun D' C P e s' hC z => ?_
  · show wpAny _ X.A (assign (.Name y py) X.env (.ref D')) _ _ _
    obtain ⟨m, hn, _⟩ := J'.loc
    have I3 : Inv X pins σ H' s' := by
      have := Blk.back I2 f2 hC J' (Heap.SameBut.refl C s'.heap)
      exact this
    obtain ⟨oC, es, ep, eC, dC, rC⟩ := hn
    have hCl : C ≠ X.env.locals := Nat.ne_of_gt (Nat.lt_of_lt_of_le I2.lt hC)
    have I4 : Inv X (pins ++ [(C, oC)]) σ H' s' := I3.pins_of fun p hp => by
      rcases List.mem_append.mp hp with z | z
      · exact I3.pin p (List.mem_append_right _ z)
      · have z' : p = (C, oC) := by simpa using z
        subst z'
        exact ⟨eC, J'.free, hCl, I2.nofs hC, fun v z => by
          have z' : oC.data = .cell v := z
          rw [dC] at z'; cases z'⟩
    refine wpAny_assign_Name (store_ok (v := .ref D') I4 hN hy (.inl hx) rfl (fun s3 I5 => ?_) (.inr hx))
    have pC := I5.pin (C, oC) (List.mem_append_right _ (List.mem_append_right _ (by simp)))
    refine ⟨m, ⟨oC, es, ep, pC.1, dC, rC⟩, fun h' hs' => ⟨_, H', ?_, q⟩⟩
    have I6 : Inv X pins (σ.set i (some (.ref D'))) H' s3 := I5.pins_of fun p hp => I5.pin p (List.mem_append_right _ (List.mem_append_left _ hp))
    refine Inv.wish (Inv.turned (t' := s3.toks) I6 (fun b o hb e => (hs'.2 b hb).trans e) J'.free hCl (.inr (Nat.le_trans I2.sz hC)) (fun x c hx' z => ?_) fun p hp z => ?_) _
    · obtain ⟨v, o, ho', _⟩ := I2.cell x c hx'
      have := Heap.lt_size ho'
      rw [z] at this
      exact absurd (Nat.lt_of_lt_of_le this hC) (Nat.lt_irrefl _)
    · have := Heap.lt_size (I2.pin p hp).1
      rw [z] at this
      exact absurd (Nat.lt_of_lt_of_le this hC) (Nat.lt_irrefl _)
  · obtain ⟨ea, T2, cls, pins2, σ2, H', rfl, J', hT, tb, hE, q⟩ := z
    obtain ⟨m, hn, _⟩ := J'.loc
    refine ⟨m, hn, fun h' hs' cenv hcl => ?_⟩
    have J3 : Inv (X.inner scope own ix C s2 H2 fp) [] σ2 H' s' := (J'.of2).pins_of fun p hp => absurd (show p ∈ ([] : List (Addr × Obj)) from hp) (by simp)
    have I3 : Inv X pins σ H' { s' with heap := h' } := Blk.back I2 f2 hC J3 hs'
    have out : ∀ b, Frs (X.inner2 scope own ix C s2 H2 fp P) pins2 H' b → Frs X pins H' b ∧ b ≠ C := fun b hb => by
      obtain ⟨a1, a2, a3, _⟩ := hb
      obtain ⟨b1, _, b3⟩ := frs_fresh hp I2 a1
      exact ⟨⟨b1, a2, b3⟩, a3⟩
    obtain ⟨o1, o2⟩ := out _ hT
    obtain ⟨o3, o4⟩ := out _ hE
    have tb2 : TbF h' ea T2 cls (rawInt L) := by
      obtain ⟨oe, vs, oT, ts, h1, h2, h3, h4, h5, h6, h7, h8⟩ := tb
      exact ⟨oe, vs, oT, ts, (hs'.2 ea o4).trans h1, h2, h3, h4, h5, h6, (hs'.2 T2 o2).trans h7, h8⟩
    have fl : Fly1 X E (rawInt L) (.ref ea) { s' with heap := h' } := ⟨ea, T2, cls, pins, σ, H', rfl, I3, o1, tb2, o3, q⟩
    unfold PySem.passOn
    refine wpAny_bind (fly_field fl fun T3 => ?_)
    rw [if_neg (by simp)]
    exact wpAny_bind (fly_flight fl fun s4 h4 => wpAny_throw h4.fly)
end
end L2

namespace L2
open PySem PySem.Spec PyProof.Rows Exc
section
variable {X : Cx} {k i iy : Nat} {x n hx y : Str} {py : Pos} {sp : Sp} {p cpos epos hp hpos pos : Pos} {e : Expr} {es : List Expr} {t : TA} {b0 : Stmt} {suite : List Stmt} {ts : TS} {D : Addr}
noncomputable def tTryA (K : PySem.W.Frag) (sp : Sp) (t : TA) (iy : Nat) (D : Addr) (i : Nat) (ts : TS) : TS := fun Dn σ H => t σ H fun vs H1 => sp vs H1 (fun v H2 => Dn.nx (σ.set iy (some v)) H2) (fun cls _ H2 => ∃ C, cls = .ref C ∧ PySem.W.mroIn K C (.ref D) = some true ∧
  ∀ ea, H2 ea = none → ts { nx := fun σ' H3 => Dn.nx (σ'.set i none) H3, rt := fun _ _ => False } (σ.set i (some (.ref ea))) (upd H2 ea (.ext (isExc C ea))))
theorem ps_tryAsg (hiy : X.N[iy]? = some y) (hly : X.env.scope.names.lookup y = some .local) (c : CalX X.prog X.w X.K X.mg X.base x k sp) (hr : Room k X.A) (hg : Gl X x) (ha : ∀ E, PA (X.wish E) (e :: es) t) (hgx : Gl X hx) (hmx : X.mg hx = some (.ref D)) (hd : XD1 X.K D) (hN : X.N.Nodup) (hi : X.N[i]? = some n) (hl : X.env.scope.names.lookup n = some .local)
    (hex : X.ex = []) (hstk : X.stack = X.env :: X.outer) (hfr : X.env.frame = some X.env.locals) (hs : ∀ ea, PSs (X.re (X.A.mark (some (.ref ea)))) (b0 :: suite) ts) (hsw : swapsWith (.Call (.Name x p) (e :: es) [] cpos) (some (.Name y py)) epos.line X.env = pure false := by rfl)
    (hdb : (x == ("__debug__" : Str)) = false := by decide) (hdx : (hx == ("__debug__" : Str)) = false := by decide) (he : starEach (e :: es) X.env = (false, eval e X.env) :: starEach es X.env := by rfl) (hpl : (backTo cpos (starEach es X.env)).any (·.1) = false := by rfl) :
    PS X (.Try [.Assign [.Name y py] (.Call (.Name x p) (e :: es) [] cpos) epos] [.ExceptHandler (some (.Name hx hp)) (some n) (b0 :: suite) hpos] [] [] pos) (tTryA X.K sp t iy D i ts) := by
  intro pins s σ H Dn I h
  obtain ⟨f, fd, ps, hm, F, hk, hb⟩ := c
  refine wpAny_Try_except ?_
  generalize hE : (fun e s₁ => wpAny (model X.prog X.w) X.A (noteFrame e X.env) (fun _ s₂ => wpAny (model X.prog X.w) X.A (setFlight e none) (fun _ s₃ => wpAny (model X.prog X.w) X.A (handleBy e X.env [.ExceptHandler (some (.Name hx hp)) (some n) (b0 :: suite) hpos]) (SP X pins Dn) X.xe s₃) X.xe s₂) X.xe s₁) = E2
  have J := I.wish E2
  have body : wpAny (model X.prog X.w) X.A (eval (.Call (.Name x p) (e :: es) [] cpos) X.env) (fun v s1 => ∃ x H2, Inv X pins σ H2 s1 ∧ RelV x v ∧ Dn.nx (σ.set iy (some x)) H2) E2 s := by
    refine wpAny_Call_Name_kw (ld_glob I hg hm ?_ hdb)
    refine PySem.W.callWith_K (h₀ := X.base) I.ok.mod.kin hk (thn (ha E2 cpos pins s σ H _ J h) fun us s1 ⟨vs, H1, I1, r, q⟩ => ⟨I1.kIn, ?_⟩) he hpl
    have I1 := I1.unwish
    have hl2 : (us ++ []).length = ps.length := by rw [List.append_nil, ← r.length]; exact F.len _ _ _ _ q
    refine wpAny_call (codeAny_mono (F.run X.A X.stack s1 H1 ⟨us, []⟩ (us ++ []) vs _ _ hr I1.env0 (hb s1 us I1.kIn hl2) (by simpa using r) q) fun r s' hq => ?_)
    match r, hq with
    | .ok (.ret u), hq =>
      obtain ⟨v, H2, I2, r2, q⟩ := I1.after hq
      exact ⟨v, H2, I2, r2, q⟩
    | .ok .next, hq => exact hq.elim
    | .ok .brk, hq => exact hq.elim
    | .ok .cont, hq => exact hq.elim
    | .error e, hq =>
      obtain ⟨ea, T, cls, H2, rfl, os, bare, un, hok, tb, n1, n2, z1, z2, C, rfl, hmr, q⟩ := hq
      have I2 : Inv X pins σ H2 s' := I1.call' os un hok bare (ch := []) (fun b z => nomatch z)
      have fresh : ∀ b, s1.heap.get? b = none → X.s₀.heap.get? b = none ∧ b ≠ X.env.locals ∧ (∀ x c, X.env.cells.lookup x = some c → c ≠ b) ∧ ∀ p ∈ X.pn ++ pins, p.1 ≠ b := fun b z => by
        refine ⟨?_, ?_, fun y c e w => ?_, fun p hp w => ?_⟩
        · cases q : X.s₀.heap.get? b with
          | none => rfl
          | some o => obtain ⟨o2, w⟩ := I1.base.there b o q (by rw [hex]; simp); rw [z] at w; cases w
        · intro w
          obtain ⟨m, ⟨o, _, _, ho, _⟩, _⟩ := I1.loc
          rw [← w, z] at ho; cases ho
        · obtain ⟨v, o, ho, _⟩ := I1.cell y c e
          rw [w, z] at ho; cases ho
        · have := (I1.pin p hp).1
          rw [w, z] at this; cases this
      obtain ⟨a1, a2, a3, a4⟩ := fresh ea n1
      obtain ⟨b1, b2, b3, b4⟩ := fresh T n2
      rw [← hE]
      refine note_next (base := X.base) (by rw [← hstk]; exact I2.ok.frames) (by rw [← hstk]; exact I2.stack) hfr tb fun h3 sh tb3 => ?_
      have I3 : Inv X pins σ H2 { s' with heap := h3 } := I2.shift (t' := s'.toks) (ch := [T, ea]) (by unfold frs; rw [hstk]; exact sh) fun b hb => by
        rcases List.mem_cons.mp hb with rfl | hb
        · exact ⟨b1, z2, b2, b3, b4⟩
        · rw [List.mem_singleton.mp hb]; exact ⟨a1, z1, a2, a3, a4⟩
      obtain ⟨c0, c1, c2, c3, c4, c5⟩ : FpOk X pins H2 s'.heap.objs.size := I2.fpOk (Nat.le_refl _) (I2.hok.fresh (Nat.le_refl _))
      obtain ⟨oe, vs', oT, tf, he3, hcl, hdi, hda, hv1, hTe, hT3, hdT, ht3⟩ := tb3
      have inst : PySem.W.InstAt h3 ea oe C none := ⟨he3, hcl, by unfold PySem.W.notCls; rw [hda], by rw [hdi]; trivial⟩
      refine wpAny_handleBy_cons (codeAny_handlers_test ?_) (by intro q; cases q)
      have J3 : Inv (X.re (X.A.mark (some (.ref ea)))) pins σ H2 { s' with heap := h3 } := I3.re rfl
      refine ld_glob (X := X.re (X.A.mark (some (.ref ea)))) J3 hgx hmx ?_ hdx
      refine exc_match (K := X.K) J3.kIn inst hd hmr ?_
      refine codeAny_handlers_suite_as ?_
      unfold setFlight
      refine wpAny_bind (wpAny_field he3 hda hv1 ?_)
      rw [if_pos (show (Value.ref s'.heap.objs.size != Value.none) = true from by simp)]
      refine wpAny_setField hT3 hdT (Array.getElem?_eq_some_iff.mp ht3).1 ?_
      generalize h4e : h3.update s'.heap.objs.size (Obj.mapFields (·.setIfInBounds 3 ((none : Option Addr).elim Value.none fun f => rawInt f))) = h4
      have k4 : ∀ b, b ≠ s'.heap.objs.size → h4.get? b = h3.get? b := fun b hb => by rw [← h4e]; exact Heap.get?_update_other _ _ (Ne.symm hb)
      have I4 : Inv X pins σ H2 { s' with heap := h4 } := Inv.turned (s := { s' with heap := h3 }) (it := s'.heap.objs.size) (t' := s'.toks) I3 (fun b o hb e => (k4 b hb).trans e) c0 c1 c3 c4 c5
      have inst4 : PySem.W.InstAt h4 ea oe C none := ⟨(k4 ea (Ne.symm hTe)).trans he3, hcl, inst.no, by rw [hdi]; trivial⟩
      have I5 : Inv X pins σ (upd H2 ea (.ext (isExc C ea))) { s' with heap := h4 } := I4.track a1 z1 a2 a3 a4 (isExc_ok ⟨oe, inst4⟩)
      refine store_ok (X := X) (v := .ref ea) I5 hN hi (Or.inl hl) rfl (fun s5 I6 => ?_) (.inr hl)
      refine wpAny_mono (hs ea pins s5 _ _ _ (I6.re rfl) (q ea z1)) (fun fl s6 w => ?_) fun _ _ w => w.elim
      match fl, w with
      | .next, w =>
        obtain ⟨σ7, H7, J7, q7⟩ := w
        have I7 := J7.unre I.ok
        obtain ⟨m, hm7, _⟩ := I7.loc
        exact wpAny_nameGoes_keeps hl hm7 (by rw [I.ok.kind]; rfl) fun h8 v8 hn8 sb8 => ⟨σ7.set i none, H7, I7.goes hN hi hl hm7 hn8 sb8, q7⟩
      | .ret u, w => obtain ⟨_, _, _, _, _, w⟩ := w; exact w.elim
      | .brk, w => obtain ⟨_, _, _, w⟩ := w; exact w.elim
      | .cont, w => obtain ⟨_, _, _, w⟩ := w; exact w.elim
  refine wpAny_execs_cons (wpAny_Assign_Name (thn body fun v s1 ⟨x2, H2, I2, r2, q⟩ => ?_) hsw)
  exact store_ok I2 hN hiy (.inl hly) r2 (fun s2 I3 => wpAny_execs_nil (wpAny_execs_nil ⟨_, H2, I3, q⟩)) (.inr hly)
end
end L2

namespace Tab
open PySem PySem.SetTable
noncomputable def Rise (xs : Array Nat) : Prop := ∀ (i j : Nat) (hij : i < j) (hj : j < xs.size), xs[i] < xs[j]
theorem go_spec {xs : Array Nat} {j : Nat} (hR : Rise xs) : ∀ (fuel lo hi : Nat), lo ≤ hi → hi ≤ xs.size → hi - lo ≤ fuel → (∀ i (h : i < xs.size), i < lo → xs[i] < j) → (∀ i (h : i < xs.size), hi ≤ i → j ≤ xs[i]) →
    below.go xs j fuel lo hi ≤ xs.size ∧ (∀ i (h : i < xs.size), i < below.go xs j fuel lo hi → xs[i] < j) ∧ (∀ i (h : i < xs.size), below.go xs j fuel lo hi ≤ i → j ≤ xs[i]) := by
  intro fuel
  induction fuel with
  | zero =>
    intro lo hi h1 h2 h3 h4 h5
    have e : lo = hi := by omega
    subst e
    rw [below.go]
    exact ⟨h2, h4, h5⟩
  | succ fuel ih =>
    intro lo hi h1 h2 h3 h4 h5
    rw [below.go]
    by_cases q : lo < hi
    · rw [if_pos q]
      have hm : (lo + hi) / 2 < xs.size := by omega
      have eg : xs.getD ((lo + hi) / 2) j = xs[(lo + hi) / 2] := by simp [hm]
      simp only [eg]
      by_cases c : xs[(lo + hi) / 2] < j
      · rw [if_pos c]
        refine ih _ _ (by omega) h2 (by omega) (fun i h hi' => ?_) h5
        rcases Nat.lt_or_ge i ((lo + hi) / 2) with z | z
        · exact Nat.lt_trans (hR i _ z hm) c
        · have : i = (lo + hi) / 2 := by omega
          subst this; exact c
      · rw [if_neg c]
        refine ih _ _ (by omega) (by omega) (by omega) h4 (fun i h hi' => ?_)
        rcases Nat.lt_or_ge ((lo + hi) / 2) i with z | z
        · have := hR _ i z h; omega
        · have : i = (lo + hi) / 2 := by omega
          subst this; omega
    · rw [if_neg q]
      have e : lo = hi := by omega
      subst e
      exact ⟨h2, h4, h5⟩
theorem below_spec {xs : Array Nat} (j : Nat) (hR : Rise xs) : below xs j ≤ xs.size ∧ (∀ i (h : i < xs.size), i < below xs j → xs[i] < j) ∧ (∀ i (h : i < xs.size), below xs j ≤ i → j ≤ xs[i]) :=
  go_spec hR _ _ _ (Nat.zero_le _) (Nat.le_refl _) (Nat.le_refl _) (fun i _ h => absurd h (Nat.not_lt_zero _)) (fun i h h' => absurd h (by omega))
theorem below_at {xs : Array Nat} (hR : Rise xs) {i : Nat} (h : i < xs.size) : below xs xs[i] = i := by
  obtain ⟨h1, h2, h3⟩ := below_spec xs[i] hR
  rcases Nat.lt_trichotomy (below xs xs[i]) i with q | q | q
  · have a := h3 _ (by omega) (Nat.le_refl _)
    have b := hR _ i q h
    omega
  · exact q
  · exact absurd (h2 i h q) (by omega)
theorem slot_live {t : SetTable} (hR : Rise t.place) {i : Nat} (h : i < t.place.size) : t.slot t.place[i] = .live i := by
  unfold SetTable.slot
  simp only [below_at hR h]
  rw [if_pos]
  simp [h]
theorem slot_empty {t : SetTable} (hd : t.dummies = #[]) {j : Nat} (h : j ∉ t.place.toList) : t.slot j = .empty := by
  unfold SetTable.slot SetTable.has
  rw [hd]
  rw [if_neg]
  · simp
  · intro z
    have z : t.place[below t.place j]? = some j := by simpa using z
    exact h (by rw [Array.mem_toList_iff]; exact Array.mem_of_getElem? z)
noncomputable def adv (mask : Nat) (p : Probe) : Probe :=
  if p.more > 0 then { p with j := p.j + 1, more := p.more - 1 } else
  let (i, perturb) := leap mask p.i p.perturb
  { p with j := i, more := runEnd mask i - i, i, perturb }
noncomputable def sq (mask : Nat) (h : Int) : Nat → Probe
  | 0 => { j := bits h % (mask + 1), more := runEnd mask (bits h % (mask + 1)) - bits h % (mask + 1), i := bits h % (mask + 1), perturb := bits h, dummy := none }
  | n + 1 => adv mask (sq mask h n)
theorem start_eq (t : SetTable) (h : Int) : t.probeStart h = sq t.mask h 0 := rfl
noncomputable def ru (mask : Nat) (h : Int) : Nat → Nat × Nat
  | 0 => (bits h % (mask + 1), bits h)
  | k + 1 => leap mask (ru mask h k).1 (ru mask h k).2
noncomputable def len (mask : Nat) (h : Int) (k : Nat) : Nat := runEnd mask (ru mask h k).1 - (ru mask h k).1
noncomputable def ms (mask : Nat) (h : Int) : Nat → Nat
  | 0 => 0
  | k + 1 => ms mask h k + len mask h k + 1
theorem len_le (mask : Nat) (h : Int) (k : Nat) : len mask h k ≤ 9 := by
  unfold len runEnd
  split <;> omega
theorem ms_le (mask : Nat) (h : Int) : ∀ k, ms mask h k ≤ 10 * k
  | 0 => Nat.le_refl _
  | k + 1 => by have := ms_le mask h k; have := len_le mask h k; show ms mask h k + len mask h k + 1 ≤ _; omega
theorem sq_run (mask : Nat) (h : Int) : ∀ (k d : Nat), d ≤ len mask h k → sq mask h (ms mask h k + d) = { j := (ru mask h k).1 + d, more := len mask h k - d, i := (ru mask h k).1, perturb := (ru mask h k).2, dummy := none } := by
  intro k
  induction k with
  | zero =>
    intro d
    induction d with
    | zero => intro _; rfl
    | succ d ih =>
      intro hd
      show adv mask (sq mask h (ms mask h 0 + d)) = _
      rw [ih (by omega)]
      unfold adv
      rw [if_pos (by show len mask h 0 - d > 0; omega)]
      simp only [Probe.mk.injEq]
      refine ⟨by omega, by omega, ?_⟩
      simp
  | succ k ihk =>
    intro d
    induction d with
    | zero =>
      intro _
      show adv mask (sq mask h (ms mask h k + len mask h k)) = _
      rw [ihk _ (Nat.le_refl _)]
      unfold adv
      rw [if_neg (by show ¬ len mask h k - len mask h k > 0; omega)]
      rfl
    | succ d ih =>
      intro hd
      show adv mask (sq mask h (ms mask h (k + 1) + d)) = _
      rw [ih (by omega)]
      unfold adv
      rw [if_pos (by show len mask h (k + 1) - d > 0; omega)]
      simp only [Probe.mk.injEq]
      refine ⟨by omega, by omega, ?_⟩
      simp
theorem ru_lt (mask : Nat) (h : Int) : ∀ k, (ru mask h k).1 ≤ mask
  | 0 => by have := Nat.mod_lt (bits h) (show 0 < mask + 1 by omega); show bits h % (mask + 1) ≤ mask; omega
  | k + 1 => by
    have := Nat.mod_lt ((ru mask h k).1 * 5 + 1 + (ru mask h k).2 / 32) (show 0 < mask + 1 by omega)
    show ((ru mask h k).1 * 5 + 1 + (ru mask h k).2 / 32) % (mask + 1) ≤ mask
    omega
theorem run_end (mask : Nat) (h : Int) (k : Nat) : (ru mask h k).1 + len mask h k ≤ mask := by
  have := ru_lt mask h k
  unfold len runEnd
  split <;> omega
theorem in_run (mask : Nat) (h : Int) : ∀ m, ∃ k d, d ≤ len mask h k ∧ m = ms mask h k + d
  | 0 => ⟨0, 0, Nat.zero_le _, rfl⟩
  | m + 1 => by
    obtain ⟨k, d, h1, h2⟩ := in_run mask h m
    by_cases q : d < len mask h k
    · exact ⟨k, d + 1, q, by omega⟩
    · exact ⟨k + 1, 0, Nat.zero_le _, by show m + 1 = ms mask h k + len mask h k + 1 + 0; omega⟩
theorem sq_lt (mask : Nat) (h : Int) (m : Nat) : (sq mask h m).j ≤ mask ∧ (sq mask h m).dummy = none := by
  obtain ⟨k, d, h1, h2⟩ := in_run mask h m
  rw [h2, sq_run mask h k d h1]
  have := run_end mask h k
  exact ⟨by show (ru mask h k).1 + d ≤ mask; omega, rfl⟩
noncomputable def Mk (mask : Nat) : Prop := mask = 7 ∨ mask = 31 ∨ mask = 127 ∨ mask = 511
noncomputable def gs (mask : Nat) : Nat → Nat
  | 0 => 0
  | n + 1 => (gs mask n * 5 + 1) % (mask + 1)
noncomputable def orb (mask : Nat) : Nat → Nat → List Nat
  | 0, _ => []
  | n + 1, c => c :: orb mask n ((c * 5 + 1) % (mask + 1))
noncomputable def whole (mask : Nat) : Bool := (List.range (mask + 1)).all fun j => (orb mask (mask + 1) 0).contains j
theorem whole_7 : whole 7 = true := by decide +kernel
theorem whole_31 : whole 31 = true := by decide +kernel
theorem whole_127 : whole 127 = true := by decide +kernel
theorem whole_511 : whole 511 = true := by decide +kernel
noncomputable def last (mask : Nat) : Nat → Nat → Nat
  | 0, c => c
  | n + 1, c => last mask n ((c * 5 + 1) % (mask + 1))
theorem last_7 : last 7 8 0 = 0 := by decide +kernel
theorem last_31 : last 31 32 0 = 0 := by decide +kernel
theorem last_127 : last 127 128 0 = 0 := by decide +kernel
theorem last_511 : last 511 512 0 = 0 := by decide +kernel
theorem last_gs (mask : Nat) : ∀ (n a : Nat), last mask n (gs mask a) = gs mask (a + n)
  | 0, a => rfl
  | n + 1, a => by
    show last mask n (gs mask (a + 1)) = _
    rw [last_gs mask n (a + 1), show a + 1 + n = a + (n + 1) by omega]
theorem orb_gs (mask : Nat) : ∀ (n a x : Nat), x ∈ orb mask n (gs mask a) → ∃ b, b < n ∧ gs mask (a + b) = x
  | 0, _, _, h => by simp [orb] at h
  | n + 1, a, x, h => by
    rw [orb] at h
    rcases List.mem_cons.mp h with rfl | h
    · exact ⟨0, by omega, rfl⟩
    · obtain ⟨b, h1, h2⟩ := orb_gs mask n (a + 1) x h
      exact ⟨b + 1, by omega, by rw [show a + (b + 1) = a + 1 + b by omega]; exact h2⟩
theorem Mk.whole {mask : Nat} (h : Mk mask) : Tab.whole mask = true ∧ last mask (mask + 1) 0 = 0 := by
  rcases h with rfl | rfl | rfl | rfl
  · exact ⟨whole_7, last_7⟩
  · exact ⟨whole_31, last_31⟩
  · exact ⟨whole_127, last_127⟩
  · exact ⟨whole_511, last_511⟩
theorem Mk.hit {mask : Nat} (h : Mk mask) {j : Nat} (hj : j ≤ mask) : ∃ b, b < mask + 1 ∧ gs mask b = j := by
  have h1 := List.all_eq_true.mp h.whole.1 j (List.mem_range.mpr (by omega))
  have h2 : j ∈ orb mask (mask + 1) (gs mask 0) := by
    show j ∈ orb mask (mask + 1) 0
    simpa using h1
  obtain ⟨b, h3, h4⟩ := orb_gs mask _ 0 j h2
  exact ⟨b, h3, by rw [Nat.zero_add] at h4; exact h4⟩
theorem Mk.per {mask : Nat} (h : Mk mask) : ∀ a, gs mask (mask + 1 + a) = gs mask a
  | 0 => by
    have := last_gs mask (mask + 1) 0
    rw [show gs mask 0 = 0 from rfl, h.whole.2, Nat.zero_add] at this
    exact this.symm
  | a + 1 => by
    show (gs mask (mask + 1 + a) * 5 + 1) % (mask + 1) = (gs mask a * 5 + 1) % (mask + 1)
    rw [Mk.per h a]
theorem Mk.reach {mask : Nat} (h : Mk mask) {c j : Nat} (hc : c ≤ mask) (hj : j ≤ mask) : ∃ n, n ≤ mask ∧ last mask n c = j := by
  obtain ⟨a, ha, rfl⟩ := h.hit hc
  obtain ⟨b, hb, rfl⟩ := h.hit hj
  rcases Nat.lt_or_ge b a with q | q
  · refine ⟨mask + 1 + b - a, by omega, ?_⟩
    rw [last_gs, show a + (mask + 1 + b - a) = mask + 1 + b by omega, h.per]
  · refine ⟨b - a, by omega, ?_⟩
    rw [last_gs, show a + (b - a) = b by omega]
theorem bits_lt (h : Int) : bits h < 2 ^ 64 := by
  unfold bits
  have h1 := Int.emod_nonneg h (show (2 ^ 64 : Int) ≠ 0 by decide)
  have h2 := Int.emod_lt_of_pos h (show (0 : Int) < 2 ^ 64 by decide)
  omega
theorem ru_pert (mask : Nat) (h : Int) : ∀ k, (ru mask h k).2 = bits h / 32 ^ k
  | 0 => by show bits h = _; simp
  | k + 1 => by
    show (ru mask h k).2 / 32 = _
    rw [ru_pert mask h k, Nat.div_div_eq_div_mul, Nat.pow_succ]
theorem ru_zero (mask : Nat) (h : Int) {k : Nat} (hk : 13 ≤ k) : (ru mask h k).2 = 0 := by
  rw [ru_pert]
  refine Nat.div_eq_of_lt (Nat.lt_of_lt_of_le (bits_lt h) ?_)
  refine Nat.le_trans (show 2 ^ 64 ≤ 32 ^ 13 by decide) (Nat.pow_le_pow_right (by decide) hk)
theorem ru_last (mask : Nat) (h : Int) : ∀ (n k : Nat), 13 ≤ k → (ru mask h (k + n)).1 = last mask n (ru mask h k).1
  | 0, _, _ => rfl
  | n + 1, k, hk => by
    rw [show k + (n + 1) = (k + 1) + n by omega, ru_last mask h n (k + 1) (by omega)]
    show last mask n ((ru mask h k).1 * 5 + 1 + (ru mask h k).2 / 32 |>.mod (mask + 1)) = last mask n (((ru mask h k).1 * 5 + 1) % (mask + 1))
    rw [ru_zero mask h hk]
    rfl
theorem Mk.cover {mask : Nat} (hm : Mk mask) (h : Int) {j : Nat} (hj : j ≤ mask) : ∃ k, k ≤ mask + 13 ∧ (ru mask h k).1 = j := by
  obtain ⟨n, h1, h2⟩ := hm.reach (ru_lt mask h 13) hj
  exact ⟨13 + n, by omega, by rw [ru_last mask h n 13 (Nat.le_refl _)]; exact h2⟩
theorem Mk.cov {mask : Nat} (hm : Mk mask) (h : Int) {j : Nat} (hj : j ≤ mask) : ∃ m, m < 10 * turns mask ∧ (sq mask h m).j = j := by
  obtain ⟨k, h1, h2⟩ := hm.cover h hj
  refine ⟨ms mask h k, ?_, ?_⟩
  · have := ms_le mask h k
    unfold turns; omega
  · have := sq_run mask h k 0 (Nat.zero_le _)
    rw [Nat.add_zero] at this
    rw [this]; exact h2
end Tab

namespace Tab
open PySem PySem.SetTable
noncomputable abbrev El := Int × Value
noncomputable def OnWay (mask : Nat) (ps : List Nat) (h : Int) (j : Nat) : Prop := ∃ m, (sq mask h m).j = j ∧ ∀ m', m' < m → (sq mask h m').j ∈ ps
structure TOk (t : SetTable) (L : List (Nat × El)) : Prop where
  msk : Mk t.mask
  dm : t.dummies = #[]
  pl : t.place.toList = L.map (·.1)
  up : L.Pairwise (fun a b => a.1 < b.1)
  le : ∀ q ∈ L, q.1 ≤ t.mask
  few : L.length ≤ t.mask
  way : ∀ q ∈ L, OnWay t.mask (L.map (·.1)) q.2.1 q.1
section
variable {t : SetTable} {L : List (Nat × El)}
theorem TOk.size (T : TOk t L) : t.place.size = L.length := by rw [← Array.length_toList, T.pl, List.length_map]
theorem TOk.at (T : TOk t L) {i : Nat} (h : i < t.place.size) : t.place[i] = (L[i]'(by rw [← T.size]; exact h)).1 := by
  have h1 : t.place.toList[i]? = some t.place[i] := by rw [Array.getElem?_toList]; exact Array.getElem?_eq_getElem h
  rw [T.pl, List.getElem?_map, List.getElem?_eq_getElem (by rw [← T.size]; exact h)] at h1
  simpa using h1.symm
theorem TOk.rise (T : TOk t L) : Rise t.place := by
  intro i j hij hj
  rw [T.at hj, T.at (by omega)]
  exact List.pairwise_iff_getElem.mp T.up i j _ _ hij
theorem TOk.slot_in (T : TOk t L) {j : Nat} (h : j ∈ L.map (·.1)) : ∃ (i : Nat) (hi : i < L.length), t.slot j = .live i ∧ L[i].1 = j := by
  obtain ⟨q, hq, rfl⟩ := List.mem_map.mp h
  obtain ⟨i, hi, rfl⟩ := List.getElem_of_mem hq
  have hi2 : i < t.place.size := by rw [T.size]; exact hi
  exact ⟨i, hi, by rw [← T.at hi2]; exact slot_live T.rise hi2, rfl⟩
theorem TOk.slot_out (T : TOk t L) {j : Nat} (h : j ∉ L.map (·.1)) : t.slot j = .empty := slot_empty T.dm (by rw [T.pl]; exact h)
theorem TOk.room (T : TOk t L) : ∃ j, j ≤ t.mask ∧ j ∉ L.map (·.1) := by
  refine Classical.byContradiction fun hno => ?_
  have : ∀ j ∈ List.range (t.mask + 1), j ∈ L.map (·.1) := fun j hj => Classical.byContradiction fun q => hno ⟨j, by have := List.mem_range.mp hj; omega, q⟩
  have h1 := List.Nodup.length_le_of_subset List.nodup_range this
  rw [List.length_range, List.length_map] at h1
  have := T.few
  omega
theorem least {p : Nat → Prop} : ∀ n, p n → ∃ m, m ≤ n ∧ p m ∧ ∀ m', m' < m → ¬ p m' := by
  intro n
  induction n using Nat.strongRecOn with
  | ind n ih =>
    intro hp
    by_cases q : ∃ m, m < n ∧ p m
    · obtain ⟨m, h1, h2⟩ := q
      obtain ⟨m2, h3, h4, h5⟩ := ih m h1 h2
      exact ⟨m2, by omega, h4, h5⟩
    · exact ⟨n, Nat.le_refl _, hp, fun m' h1 h2 => q ⟨m', h1, h2⟩⟩
theorem TOk.first (T : TOk t L) (h : Int) : ∃ e, e < 10 * turns t.mask ∧ (sq t.mask h e).j ∉ L.map (·.1) ∧ ∀ m, m < e → (sq t.mask h m).j ∈ L.map (·.1) := by
  obtain ⟨j, h1, h2⟩ := T.room
  obtain ⟨m, h3, rfl⟩ := T.msk.cov h h1
  obtain ⟨e, h4, h5, h6⟩ := least (p := fun m => (sq t.mask h m).j ∉ L.map (·.1)) m h2
  exact ⟨e, by (clear h1; omega), h5, fun m' hm => Classical.not_not.mp (h6 m' hm)⟩
theorem TOk.probe_go (T : TOk t L) {h : Int} {e : Nat} (he : (sq t.mask h e).j ∉ L.map (·.1)) (hb : ∀ m, m < e → (sq t.mask h m).j ∈ L.map (·.1)) (ha : Nat → Int) : ∀ (F n : Nat), n ≤ e → e - n < F →
    ∃ m, n ≤ m ∧ m ≤ e ∧ (∀ m', n ≤ m' → m' < m → ∀ (i : Nat) (hi : i < L.length), L[i].1 = (sq t.mask h m').j → ha i ≠ h) ∧
      ((m = e ∧ SetTable.probe.go t ha h F (sq t.mask h n) = some (.empty (sq t.mask h e).j none)) ∨
        (m < e ∧ ∃ (i : Nat) (hi : i < L.length), L[i].1 = (sq t.mask h m).j ∧ ha i = h ∧ SetTable.probe.go t ha h F (sq t.mask h n) = some (.candidate (sq t.mask h m).j i (sq t.mask h (m + 1))))) := by
  intro F
  induction F with
  | zero => intro n _ h2; omega
  | succ F ih =>
    intro n h1 h2
    rw [SetTable.probe.go]
    by_cases q : n = e
    · subst q
      refine ⟨n, Nat.le_refl _, Nat.le_refl _, fun m' a b => absurd a (by (clear a h2 h1; omega)), .inl ⟨rfl, ?_⟩⟩
      rw [T.slot_out he]
      simp only
      rw [(sq_lt t.mask h n).2]
    · obtain ⟨i, hi, e1, e2⟩ := T.slot_in (hb n (by (clear h2; omega)))
      rw [e1]
      simp only
      by_cases c : ha i = h
      · refine ⟨n, Nat.le_refl _, by (clear c e2 hi q h2; omega), fun m' a b => absurd a (by (clear a c e2 hi q h2 h1; omega)), .inr ⟨by (clear c e2 hi h2; omega), i, hi, e2, c, ?_⟩⟩
        rw [if_pos (by simpa using c)]
        rfl
      · rw [if_neg (by simpa using c)]
        obtain ⟨m, h3, h4, h5, h6⟩ := ih (n + 1) (by (clear c e2 hi h2; omega)) (by (clear c e2 hi; omega))
        refine ⟨m, by (clear h6 h4 c e2 hi q h2 h1; omega), h4, fun m' a b => ?_, ?_⟩
        · by_cases z : m' = n
          · subst z
            intro i2 hi2 e3
            have : i2 = i := by
              rcases Nat.lt_trichotomy i2 i with w | w | w
              · have := List.pairwise_iff_getElem.mp T.up i2 i hi2 hi w; (clear w a h6 h3 q h2 h1 b h4 c; omega)
              · exact w
              · have := List.pairwise_iff_getElem.mp T.up i i2 hi hi2 w; (clear w a h6 h3 q h2 h1 b h4 c; omega)
            subst this; exact c
          · exact h5 m' (by (clear b h6 h4 h3 c e2 hi q h2 h1; omega)) b
        · exact h6
theorem TOk.met (T : TOk t L) {e : Nat} {q : Nat × El} (hq : q ∈ L) (he : (sq t.mask q.2.1 e).j ∉ L.map (·.1)) : ∃ m, m < e ∧ (sq t.mask q.2.1 m).j = q.1 := by
  obtain ⟨m, h1, h2⟩ := T.way q hq
  refine ⟨m, ?_, h1⟩
  rcases Nat.lt_trichotomy m e with c | c | c
  · exact c
  · subst c; exact absurd (h1 ▸ List.mem_map.mpr ⟨q, hq, rfl⟩) he
  · exact absurd (h2 e c) he
theorem fresh_ok (led : Bool) : TOk (.fresh 0 0 led) [] where
  msk := .inl rfl
  dm := rfl
  pl := rfl
  up := .nil
  le := fun _ h => nomatch h
  few := Nat.zero_le _
  way := fun _ h => nomatch h
theorem TOk.put (T : TOk t L) {h : Int} {x : Value} {e : Nat} (he : (sq t.mask h e).j ∉ L.map (·.1)) (hb : ∀ m, m < e → (sq t.mask h m).j ∈ L.map (·.1)) (hr : L.length + 1 ≤ t.mask) :
    ∃ L', TOk (t.put (sq t.mask h e).j).1 L' ∧ L'.Perm (((sq t.mask h e).j, (h, x)) :: L) ∧ ∀ es : Array El, es.toList = L.map (·.2) → (SetTable.insertAt es (t.put (sq t.mask h e).j).2 (h, x)).toList = L'.map (·.2) := by
  have hj := (sq_lt t.mask h e).1
  have hp : OnWay t.mask (L.map (·.1)) h (sq t.mask h e).j := ⟨e, rfl, hb⟩
  generalize (sq t.mask h e).j = j at *
  obtain ⟨b1, b2, b3⟩ := below_spec j T.rise
  have hpm : (L.take (below t.place j) ++ (j, (h, x)) :: L.drop (below t.place j)).Perm ((j, (h, x)) :: L) := List.perm_middle.trans (by rw [List.take_append_drop])
  have hmem : ∀ q, q ∈ L.take (below t.place j) ++ (j, (h, x)) :: L.drop (below t.place j) ↔ q = (j, (h, x)) ∨ q ∈ L := fun q => by rw [hpm.mem_iff, List.mem_cons]
  have hdm : (t.put j).1.dummies = #[] := by
    show (if has t.dummies j then eraseAt t.dummies (below t.dummies j) else t.dummies) = #[]
    rw [T.dm]
    rw [if_neg (by simp [has])]
  have hsz := T.size
  refine ⟨_, ⟨T.msk, hdm, ?_, ?_, ?_, ?_, ?_⟩, hpm, fun es hes => ?_⟩
  · show (insertAt t.place (below t.place j) j).toList = _
    rw [SetTable.toList_insertAt, T.pl, List.map_append, List.map_cons, List.map_take, List.map_drop]
  · rw [List.pairwise_append]
    refine ⟨T.up.sublist (List.take_sublist _ _), List.pairwise_cons.mpr ⟨fun q hq => ?_, T.up.sublist (List.drop_sublist _ _)⟩, fun q hq r hr => ?_⟩
    · obtain ⟨i, hi, e⟩ := List.mem_drop_iff_getElem.mp hq
      have h1 : i + below t.place j < t.place.size := by (clear b1 hj hr; omega)
      have h2 := b3 (i + below t.place j) h1 (by (clear h1 hsz b1 hj hr; omega))
      rw [T.at h1] at h2
      have e' : L[i + below t.place j]'(by (clear h2 h1 hsz b1 hj hr; omega)) = q := by rw [← e]; congr 1; (clear h2 h1 hsz b1 hj hr; omega)
      rw [e'] at h2
      have : q.1 ≠ j := fun z => he (z ▸ List.mem_map.mpr ⟨q, List.mem_of_mem_drop hq, rfl⟩)
      show j < q.1
      (clear b1 hj hr; omega)
    · obtain ⟨i, hi, e⟩ := List.mem_take_iff_getElem.mp hq
      have h1 : i < t.place.size := by (clear hsz hj; omega)
      have h2 := b2 i h1 (by (clear h1 hsz b1 hj; omega))
      rw [T.at h1, e] at h2
      rcases List.mem_cons.mp hr with rfl | hr
      · exact h2
      · obtain ⟨i', hi', e'⟩ := List.mem_drop_iff_getElem.mp hr
        have h1' : i' + below t.place j < t.place.size := by (clear h2 h1 b1 hj; omega)
        have h2' := b3 (i' + below t.place j) h1' (by (clear h1' h2 h1 hsz b1 hj; omega))
        rw [T.at h1'] at h2'
        have e'' : L[i' + below t.place j]'(by (clear h2' h1' h2 h1 hsz b1 hj; omega)) = r := by rw [← e']; congr 1; (clear h2' h1' h2 h1 hsz b1 hj; omega)
        rw [e''] at h2'
        (clear h1 b1 hj; omega)
  · intro q hq
    rcases (hmem q).mp hq with rfl | hq
    · exact hj
    · exact T.le q hq
  · rw [hpm.length_eq, List.length_cons]; exact hr
  · have hsub : ∀ y, y ∈ L.map (·.1) → y ∈ (L.take (below t.place j) ++ (j, (h, x)) :: L.drop (below t.place j)).map (·.1) := fun y hy => by
      obtain ⟨q, hq, rfl⟩ := List.mem_map.mp hy
      exact List.mem_map.mpr ⟨q, (hmem q).mpr (.inr hq), rfl⟩
    intro q hq
    rcases (hmem q).mp hq with rfl | hq
    · obtain ⟨m, h1, h2⟩ := hp
      exact ⟨m, h1, fun m' hm => hsub _ (h2 m' hm)⟩
    · obtain ⟨m, h1, h2⟩ := T.way q hq
      exact ⟨m, h1, fun m' hm => hsub _ (h2 m' hm)⟩
  · show (insertAt es (below t.place j) (h, x)).toList = _
    rw [SetTable.toList_insertAt, hes, List.map_append, List.map_cons, List.map_take, List.map_drop]
end
end Tab

namespace Tab
open PySem PySem.SetTable
noncomputable def Owned (owner : Array (Option Nat)) (j : Nat) : Prop := ∃ k, owner[j]? = some (some k)
structure Own (mask : Nat) (hs : List Int) (c : Nat) (owner : Array (Option Nat)) : Prop where
  sz : owner.size = mask + 1
  all : ∀ (k : Nat), k < c → ∃ (j : Nat), j ≤ mask ∧ owner[j]? = some (some k)
  lt : ∀ (j k : Nat), owner[j]? = some (some k) → k < c
  inj : ∀ (j j' k : Nat), owner[j]? = some (some k) → owner[j']? = some (some k) → j = j'
  way : ∀ (j k : Nat), owner[j]? = some (some k) → ∃ m, (sq mask (hs.getD k 0) m).j = j ∧ ∀ m', m' < m → Owned owner (sq mask (hs.getD k 0) m').j
theorem own_nil (mask : Nat) (hs : List Int) : Own mask hs 0 (Array.replicate (mask + 1) none) := by
  have no : ∀ (j k : Nat), ¬ (Array.replicate (mask + 1) (none : Option Nat))[j]? = some (some k) := fun j k h => by
    rw [Array.getElem?_replicate] at h
    split at h <;> simp at h
  exact ⟨by simp, fun k h => absurd h (Nat.not_lt_zero _), fun j k h => absurd h (no j k), fun j j' k h => absurd h (no j k), fun j k h => absurd h (no j k)⟩
theorem getD_none {owner : Array (Option Nat)} {j : Nat} (hj : j < owner.size) : (owner.getD j (some 0)).isNone = true ↔ owner[j]? = some none := by
  have e : owner.getD j (some 0) = owner[j] := by simp [hj]
  rw [e, Array.getElem?_eq_getElem hj]
  simp
theorem owned_of {owner : Array (Option Nat)} {j : Nat} (hj : j < owner.size) (h : ¬ (owner.getD j (some 0)).isNone = true) : Owned owner j := by
  rw [getD_none hj, Array.getElem?_eq_getElem hj] at h
  cases e : owner[j] with
  | none => rw [e] at h; exact absurd rfl h
  | some k => exact ⟨k, by rw [Array.getElem?_eq_getElem hj, e]⟩
theorem free_spec {mask : Nat} {h : Int} {owner : Array (Option Nat)} (hsz : owner.size = mask + 1) : ∀ (fuel k : Nat), (∃ k1, k ≤ k1 ∧ k1 < k + fuel ∧ owner[(ru mask h k1).1]? = some none) → (∀ m', m' < ms mask h k → Owned owner (sq mask h m').j) →
    ∃ j m, layClean.free mask owner fuel (ru mask h k).1 (ru mask h k).2 = some j ∧ j ≤ mask ∧ owner[j]? = some none ∧ (sq mask h m).j = j ∧ ∀ m', m' < m → Owned owner (sq mask h m').j := by
  intro fuel
  induction fuel with
  | zero => rintro k ⟨k1, h1, h2, _⟩; (clear hsz; omega)
  | succ fuel ih =>
    rintro k ⟨k1, h1, h2, h3⟩ hb
    have hend := run_end mask h k
    have elen : runEnd mask (ru mask h k).1 + 1 - (ru mask h k).1 = len mask h k + 1 := by
      unfold len runEnd; split <;> (clear hend h2 h1 hsz; omega)
    rw [layClean.free]
    cases hf : (List.range (runEnd mask (ru mask h k).1 + 1 - (ru mask h k).1)).find? (fun d => (owner.getD ((ru mask h k).1 + d) (some 0)).isNone) with
    | some d =>
      simp only
      rw [elen] at hf
      obtain ⟨f1, f2, f3⟩ := List.find?_range_eq_some.mp hf
      have hd : d ≤ len mask h k := by have := List.mem_range.mp f2; (clear elen hend h2 h1 hsz; omega)
      refine ⟨_, ms mask h k + d, rfl, by (clear elen h2 h1 hsz; omega), (getD_none (by (clear elen h2 h1; omega))).mp f1, by rw [sq_run mask h k d hd], fun m' hm => ?_⟩
      by_cases c : m' < ms mask h k
      · exact hb m' c
      · obtain ⟨d', rfl⟩ : ∃ d', m' = ms mask h k + d' := ⟨m' - ms mask h k, by (clear hm hd elen hend h2 h1 hsz; omega)⟩
        rw [sq_run mask h k d' (by (clear c elen hend h2 h1 hsz; omega))]
        have := f3 d' (by (clear c hd elen hend h2 h1 hsz; omega))
        refine owned_of (j := (ru mask h k).1 + d') (by (clear c elen h2 h1; omega)) fun z => ?_
        rw [z] at this
        cases this
    | none =>
      simp only
      rw [elen] at hf
      have hall : ∀ d, d ≤ len mask h k → Owned owner ((ru mask h k).1 + d) := fun d hd => by
        have := List.find?_eq_none.mp hf d (List.mem_range.mpr (by (clear elen hend h2 h1 hsz; omega)))
        exact owned_of (by (clear elen h2 h1; omega)) this
      have hk : k1 ≠ k := fun e => by
        subst e
        obtain ⟨x, hx⟩ := hall 0 (Nat.zero_le _)
        rw [Nat.add_zero, h3] at hx
        cases hx
      refine ih (k + 1) ⟨k1, by (clear elen hend h2 hsz; omega), by (clear hk elen hend h1 hsz; omega), h3⟩ fun m' hm => ?_
      by_cases c : m' < ms mask h k
      · exact hb m' c
      · have hm : m' < ms mask h k + len mask h k + 1 := hm
        obtain ⟨d', rfl⟩ : ∃ d', m' = ms mask h k + d' := ⟨m' - ms mask h k, by (clear hm hk elen hend h2 h1 hsz; omega)⟩
        rw [sq_run mask h k d' (by (clear c hk elen hend h2 h1 hsz; omega))]
        exact hall d' (by (clear c hk elen hend h2 h1 hsz; omega))
theorem Own.room {mask : Nat} {hs : List Int} {c : Nat} {owner : Array (Option Nat)} (O : Own mask hs c owner) (hc : c ≤ mask) : ∃ j, j ≤ mask ∧ owner[j]? = some none := by
  refine Classical.byContradiction fun hno => ?_
  have h1 : ∀ j, j ≤ mask → Owned owner j := fun j hj => by
    have hj2 : j < owner.size := by rw [O.sz]; (clear hc; omega)
    cases e : owner[j] with
    | none => exact absurd ⟨j, hj, by rw [Array.getElem?_eq_getElem hj2, e]⟩ hno
    | some k => exact ⟨k, by rw [Array.getElem?_eq_getElem hj2, e]⟩
  let g : Nat → Nat := fun j => ((owner[j]?).getD none).getD 0
  have hg : ∀ j, j ≤ mask → owner[j]? = some (some (g j)) := fun j hj => by
    obtain ⟨k, hk⟩ := h1 j hj
    show owner[j]? = some (some (((owner[j]?).getD none).getD 0))
    rw [hk]; rfl
  have hnd : ((List.range (mask + 1)).map g).Nodup := by
    rw [List.nodup_iff_pairwise_ne, List.pairwise_map]
    refine (List.nodup_iff_pairwise_ne.mp List.nodup_range).imp_of_mem fun {a b} ha hb hab e => ?_
    have ha := List.mem_range.mp ha
    have hb := List.mem_range.mp hb
    exact hab (O.inj a b (g a) (hg a (by (clear hb e hab hc; omega))) (by rw [e]; exact hg b (by (clear ha e hab hc; omega))))
  have hsub : (List.range (mask + 1)).map g ⊆ List.range c := fun x hx => by
    obtain ⟨j, hj, rfl⟩ := List.mem_map.mp hx
    have hj := List.mem_range.mp hj
    exact List.mem_range.mpr (O.lt j _ (hg j (by (clear hc; omega))))
  have := List.Nodup.length_le_of_subset hnd hsub
  rw [List.length_map, List.length_range, List.length_range] at this
  omega
theorem Own.step {mask : Nat} {hs : List Int} {c : Nat} {owner : Array (Option Nat)} (hm : Mk mask) (O : Own mask hs c owner) (hc : c ≤ mask) :
    ∃ j, layClean.free mask owner (turns mask) (bits (hs.getD c 0) % (mask + 1)) (bits (hs.getD c 0)) = some j ∧ Own mask hs (c + 1) (owner.setIfInBounds j (some c)) := by
  obtain ⟨j0, h1, h2⟩ := O.room hc
  obtain ⟨k, h3, h4⟩ := hm.cover (hs.getD c 0) h1
  obtain ⟨j, m, f1, f2, f3, f4, f5⟩ := free_spec (h := hs.getD c 0) O.sz (turns mask) 0 ⟨k, Nat.zero_le _, by unfold turns; (clear h4 h1 hc; omega), by rw [h4]; exact h2⟩ (fun m' hm => absurd hm (Nat.not_lt_zero _))
  have hj : j < owner.size := by rw [O.sz]; (clear f4 h4 h3 h1 hc; omega)
  have at_j : (owner.setIfInBounds j (some c))[j]? = some (some c) := by simp [hj]
  have at_ne : ∀ i, i ≠ j → (owner.setIfInBounds j (some c))[i]? = owner[i]? := fun i hi => by
    rw [Array.getElem?_setIfInBounds, if_neg (fun e => hi e.symm)]
  have up : ∀ i, Owned owner i → Owned (owner.setIfInBounds j (some c)) i := fun i ⟨k, hk⟩ => by
    by_cases e : i = j
    · subst e; exact ⟨c, at_j⟩
    · exact ⟨k, by rw [at_ne i e]; exact hk⟩
  refine ⟨j, f1, ⟨by simp [O.sz], fun k hk => ?_, fun i k hik => ?_, fun i i' k hi hi' => ?_, fun i k hik => ?_⟩⟩
  · by_cases e : k = c
    · subst e; exact ⟨j, f2, at_j⟩
    · obtain ⟨i, h5, h6⟩ := O.all k (by (clear hj f4 f2 h4 h3 h1 hc; omega))
      refine ⟨i, h5, ?_⟩
      rw [at_ne i (fun z => by rw [z, f3] at h6; cases h6)]
      exact h6
  · by_cases e : i = j
    · subst e; rw [at_j] at hik; cases hik; (clear hj f4 f2 h4 h3 h1 hc; omega)
    · rw [at_ne i e] at hik
      have := O.lt i k hik; (clear e hj f4 f2 h4 h3 h1 hc; omega)
  · by_cases e : i = j <;> by_cases e' : i' = j
    · rw [e, e']
    · subst e
      rw [at_j] at hi; cases hi
      rw [at_ne i' e'] at hi'
      exact absurd (O.lt _ _ hi') (by (clear e' hj f4 f2 h4 h3 h1 hc; omega))
    · subst e'
      rw [at_j] at hi'; cases hi'
      rw [at_ne i e] at hi
      exact absurd (O.lt _ _ hi) (by (clear e hj f4 f2 h4 h3 h1 hc; omega))
    · rw [at_ne i e] at hi
      rw [at_ne i' e'] at hi'
      exact O.inj i i' k hi hi'
  · by_cases e : i = j
    · subst e
      rw [at_j] at hik; cases hik
      exact ⟨m, f4, fun m' hm => up _ (f5 m' hm)⟩
    · rw [at_ne i e] at hik
      obtain ⟨m2, h5, h6⟩ := O.way i k hik
      exact ⟨m2, h5, fun m' hm => up _ (h6 m' hm)⟩
theorem clean_ok {mask : Nat} (hm : Mk mask) (hashes : Array Int) (hn : hashes.size ≤ mask + 1) : ∃ owner, layClean mask hashes = some owner ∧ Own mask hashes.toList hashes.size owner := by
  unfold layClean
  rw [← Array.foldl_toList]
  have hl : hashes.toList.length = hashes.size := Array.length_toList
  have key : ∀ c, c ≤ hashes.toList.length → ∃ owner, (hashes.toList.take c).foldl (fun (acc : Option (Array (Option Nat) × Nat)) (h : Int) => do
      let (owner, k) ← acc
      let j ← layClean.free mask owner (turns mask) (bits h % (mask + 1)) (bits h)
      pure (owner.setIfInBounds j (some k), k + 1)) (some (Array.replicate (mask + 1) none, 0)) = some (owner, c) ∧ Own mask hashes.toList c owner := by
    intro c
    induction c with
    | zero => intro _; exact ⟨_, rfl, own_nil mask _⟩
    | succ c ih =>
      intro hc
      obtain ⟨owner, e, O⟩ := ih (by (clear hl hn; omega))
      obtain ⟨j, f, O'⟩ := O.step hm (by omega)
      refine ⟨_, ?_, O'⟩
      have hc2 : c < hashes.toList.length := hc
      rw [List.take_succ_eq_append_getElem hc2, List.foldl_append, e]
      have e2 : hashes.toList.getD c 0 = hashes.toList[c] := by rw [List.getD_eq_getElem?_getD, List.getElem?_eq_getElem hc2]; rfl
      rw [e2] at f
      show (do
        let j ← layClean.free mask owner (turns mask) (bits hashes.toList[c] % (mask + 1)) (bits hashes.toList[c])
        pure (owner.setIfInBounds j (some c), c + 1) : Option (Array (Option Nat) × Nat)) = _
      rw [f]
      rfl
  obtain ⟨owner, e, O⟩ := key hashes.toList.length (Nat.le_refl _)
  rw [List.take_length] at e
  rw [hl] at O
  exact ⟨owner, by rw [e]; rfl, O⟩
theorem relaid_ok {t : SetTable} {es : Array El} {wanted : Nat} (hm : Mk (sizeAbove wanted - 1)) (hn : es.size ≤ sizeAbove wanted - 1) :
    ∃ t' order L', t.relaid (es.map (·.1)) wanted = some (t', order) ∧ (order.filterMap (es[·]?)).toList = L'.map (·.2) ∧ TOk t' L' ∧ (L'.map (·.2)).Perm es.toList ∧ t'.led = t.led ∧ t'.plain = t.plain ∧ t'.mask = sizeAbove wanted - 1 ∧ order.toList.Perm (List.range es.size) := by
  unfold relaid laid
  generalize sizeAbove wanted - 1 = mask at *
  obtain ⟨owner, e, O⟩ := clean_ok hm (es.map (·.1)) (by rw [Array.size_map]; omega)
  rw [e]
  generalize hlv : (List.range (mask + 1)).filterMap (fun j => (owner.getD j none).map (j, ·)) = live
  have mem : ∀ q : Nat × Nat, q ∈ live ↔ owner[q.1]? = some (some q.2) := by
    intro q
    rw [← hlv, List.mem_filterMap]
    constructor
    · rintro ⟨j, hj, hq⟩
      have hj := List.mem_range.mp hj
      have hj2 : j < owner.size := by rw [O.sz]; exact hj
      have e1 : owner.getD j none = owner[j] := by simp [hj2]
      rw [e1] at hq
      obtain ⟨k, hk, rfl⟩ := Option.map_eq_some_iff.mp hq
      show owner[j]? = some (some k)
      rw [Array.getElem?_eq_getElem hj2, hk]
    · intro h
      obtain ⟨hj, hk⟩ := Array.getElem?_eq_some_iff.mp h
      refine ⟨q.1, List.mem_range.mpr (by rw [O.sz] at hj; exact hj), ?_⟩
      have e1 : owner.getD q.1 none = owner[q.1] := by simp [hj]
      rw [e1, hk]
      rfl
  have ups : live.Pairwise (fun a b => a.1 < b.1) := by
    rw [← hlv, List.pairwise_filterMap]
    refine List.pairwise_lt_range.imp fun {a b} hab x hx y hy => ?_
    obtain ⟨_, _, rfl⟩ := Option.map_eq_some_iff.mp hx
    obtain ⟨_, _, rfl⟩ := Option.map_eq_some_iff.mp hy
    exact hab
  have hsn : (es.map (·.1)).size = es.size := Array.size_map
  have ordp : (live.map (·.2)).Perm (List.range es.size) := by
    refine (List.perm_ext_iff_of_nodup ?_ List.nodup_range).mpr fun k => ?_
    · rw [List.nodup_iff_pairwise_ne, List.pairwise_map]
      refine ups.imp_of_mem fun {a b} ha hb hab z => ?_
      have h1 := (mem a).mp ha
      have h2 := (mem b).mp hb
      rw [← z] at h2
      have := O.inj _ _ _ h1 h2
      (clear z hsn hn; omega)
    · rw [List.mem_range, List.mem_map]
      constructor
      · rintro ⟨q, hq, rfl⟩
        have := O.lt _ _ ((mem q).mp hq)
        rw [hsn] at this; exact this
      · intro hk
        obtain ⟨j, _, hj⟩ := O.all k (by rw [hsn]; exact hk)
        exact ⟨(j, k), (mem _).mpr hj, rfl⟩
  have hlt : ∀ q ∈ live, q.2 < es.size := fun q hq => List.mem_range.mp (ordp.mem_iff.mp (List.mem_map.mpr ⟨q, hq, rfl⟩))
  let el : Nat → El := fun k => es.getD k (0, .none)
  have hel : ∀ k, k < es.size → es[k]? = some (el k) := fun k hk => by
    show es[k]? = some (es.getD k (0, .none))
    rw [Array.getElem?_eq_getElem hk]; simp [hk]
  have fm : ∀ l : List (Nat × Nat), (∀ q ∈ l, q.2 < es.size) → (l.map (·.2)).filterMap (es[·]?) = l.map fun q => el q.2 := by
    intro l
    induction l with
    | nil => intro _; rfl
    | cons q l ih =>
      intro h
      rw [List.map_cons, List.filterMap_cons, hel q.2 (h q (by simp))]
      simp only [List.map_cons]
      rw [ih fun r hr => h r (List.mem_cons_of_mem _ hr)]
  refine ⟨_, _, live.map fun q => (q.1, el q.2), rfl, ?_, ⟨hm, rfl, ?_, ?_, ?_, ?_, ?_⟩, ?_, rfl, rfl, rfl, (by have h0 := ordp; rw [← hlv] at h0; simpa using h0)⟩
  · rw [Array.toList_filterMap, List.map_map]
    show (((List.range (mask + 1)).filterMap (fun j => (owner.getD j none).map (j, ·))).map (·.2)).filterMap (es[·]?) = _
    rw [hlv, fm live hlt]
    rfl
  · rw [List.map_map]
    show ((List.range (mask + 1)).filterMap (fun j => (owner.getD j none).map (j, ·))).map (·.1) = _
    rw [hlv]
    rfl
  · rw [List.pairwise_map]; exact ups
  · intro q hq
    obtain ⟨r, hr, rfl⟩ := List.mem_map.mp hq
    obtain ⟨hj, _⟩ := Array.getElem?_eq_some_iff.mp ((mem r).mp hr)
    rw [O.sz] at hj
    show r.1 ≤ mask
    (clear hsn hn; omega)
  · rw [List.length_map]
    have := ordp.length_eq
    rw [List.length_map, List.length_range] at this
    show live.length ≤ mask
    (clear hsn; omega)
  · intro q hq
    obtain ⟨r, hr, rfl⟩ := List.mem_map.mp hq
    obtain ⟨m, h1, h2⟩ := O.way _ _ ((mem r).mp hr)
    have eh : (es.map (·.1)).toList.getD r.2 0 = (el r.2).1 := by
      rw [List.getD_eq_getElem?_getD, Array.toList_map, List.getElem?_map, Array.getElem?_toList, hel _ (hlt r hr)]; rfl
    rw [eh] at h1 h2
    refine ⟨m, h1, fun m' hm' => ?_⟩
    obtain ⟨k, hk⟩ := h2 m' hm'
    rw [List.map_map]
    exact List.mem_map.mpr ⟨(_, k), (mem _).mpr hk, rfl⟩
  · rw [List.map_map]
    have h1 := ordp.map el
    rw [List.map_map] at h1
    refine (show (live.map fun q => el q.2).Perm _ from h1).trans (List.Perm.of_eq ?_)
    refine List.ext_getElem (by simp) fun i i1 i2 => ?_
    rw [List.getElem_map, List.getElem_range]
    have hi : i < es.size := by simpa using i2
    show es.getD i (0, .none) = _
    simp [hi]
end Tab

namespace Tab
open PySem PySem.SetTable
section
variable {prog : Program} {w : World} {A : Around} {E : Value → Shared → Prop} {s : Shared}
noncomputable abbrev IK (prog : Program) (w : World) := intKind prog w
theorem items_int {ks : List Int} {vs : List Value} (h : ItemsAre (IK prog w) ks vs) : ∀ v ∈ vs, ∃ n t, v = .int n t := by
  induction h with
  | nil => intro v hv; simp at hv
  | cons h1 _ ih =>
    intro v hv
    rcases List.mem_cons.mp hv with rfl | hv
    · obtain ⟨t, rfl⟩ := Value.isInt_shape h1; exact ⟨_, t, rfl⟩
    · exact ih v hv
theorem hbv_tuple {ks : List Int} {b : Addr} {Q : Bool → Shared → Prop} (hk : IsTupleKey (IK prog w) s.heap ks b) (h : Q true s) : wpAny (model prog w) A (hashByValue 8 (.ref b)) Q E s := by
  have hT := hk.typeIs
  obtain ⟨o, items, n, ho, _, hd, hi⟩ := hk
  unfold hashByValue
  refine wpAny_bind (wpAny_specialOf hT F.slot_tuple_hash.lookup ?_)
  show wpAny (model prog w) A (seqItems? (.ref b) >>= _) _ _ s
  refine wpAny_bind (wpAny_seqItems ho hd ?_)
  refine wpAny_bind ?_
  show wpAny (model prog w) A (forIn items _ _) _ _ s
  rw [← Array.forIn_toList]
  refine wpAny_forIn_list _ (fun rest r s' => r.1 = none ∧ s' = s ∧ ∀ v ∈ rest, ∃ n t, v = Value.int n t) _ ?_ ?_ _ _ ⟨rfl, rfl, items_int hi⟩
  · rintro v rest r s' ⟨hr, rfl, hall⟩
    obtain ⟨n, t, rfl⟩ := hall v List.mem_cons_self
    show wpAny (model prog w) A (hashByValue 7 (.int n t) >>= _) _ _ _
    have e : hashByValue 7 (.int n t) = pure true := by simp [hashByValue]
    rw [e]
    refine wpAny_bind (wpAny_pure ?_)
    simp only [Bool.not_true, Bool.false_eq_true, if_false]
    exact wpAny_pure ⟨rfl, rfl, fun u hu' => hall u (List.mem_cons_of_mem _ hu')⟩
  · rintro ⟨r1, r2⟩ s' ⟨hr, rfl, _⟩
    simp only at hr
    subst hr
    exact wpAny_pure h
theorem ocs_tuple {ks : List Int} {b : Addr} {Q : Bool → Shared → Prop} (hk : IsTupleKey (IK prog w) s.heap ks b) (h : Q false s) : wpAny (model prog w) A (ofAClassStatement 8 (.ref b)) Q E s := by
  have hT := hk.typeIs
  obtain ⟨o, items, n, ho, _, hd, hi⟩ := hk
  unfold ofAClassStatement
  refine wpAny_bind (wpAny_typeOf hT ?_)
  show wpAny (model prog w) A ((if ("tuple" == "tuple") = true then pure true else isSubtype (.type "tuple") (.type "tuple")) >>= _) _ _ s
  rw [if_pos (by decide)]
  refine wpAny_bind (wpAny_pure ?_)
  simp only [Bool.not_true, Bool.false_eq_true, if_false]
  refine wpAny_bind (wpAny_seqItems ho hd ?_)
  refine wpAny_bind ?_
  show wpAny (model prog w) A (forIn items _ _) _ _ s
  rw [← Array.forIn_toList]
  refine wpAny_forIn_list _ (fun rest r s' => r.1 = none ∧ s' = s ∧ ∀ v ∈ rest, ∃ n t, v = Value.int n t) _ ?_ ?_ _ _ ⟨rfl, rfl, items_int hi⟩
  · rintro v rest r s' ⟨hr, rfl, hall⟩
    obtain ⟨n, t, rfl⟩ := hall v List.mem_cons_self
    show wpAny (model prog w) A (ofAClassStatement 7 (.int n t) >>= _) _ _ _
    have e : ofAClassStatement 7 (.int n t) = pure false := by simp [ofAClassStatement]
    rw [e]
    refine wpAny_bind (wpAny_pure ?_)
    simp only [Bool.false_eq_true, if_false]
    exact wpAny_pure ⟨rfl, rfl, fun u hu' => hall u (List.mem_cons_of_mem _ hu')⟩
  · rintro ⟨r1, r2⟩ s' ⟨hr, rfl, _⟩
    simp only at hr
    subst hr
    exact wpAny_pure h
theorem seen_no {ks : List Int} {b : Addr} {Q : Bool → Shared → Prop} (hk : IsTupleKey (IK prog w) s.heap ks b) {stored : List Value} (hs : ∀ v ∈ stored, ∃ k c, v = .ref c ∧ IsTupleKey (IK prog w) s.heap k c) (h : Q false s) :
    wpAny (model prog w) A (searchCouldBeSeen (.ref b) stored) Q E s := by
  unfold searchCouldBeSeen
  refine wpAny_bind ?_
  refine wpAny_forIn_list _ (fun rest r s' => r.1 = none ∧ s' = s ∧ ∀ v ∈ rest, ∃ k c, v = Value.ref c ∧ IsTupleKey (IK prog w) s.heap k c) _ ?_ ?_ _ _ ⟨rfl, rfl, hs⟩
  · rintro v rest r s' ⟨hr, rfl, hall⟩
    obtain ⟨k, c, rfl, hkc⟩ := hall v List.mem_cons_self
    have hrest : ∀ u ∈ rest, ∃ k c, u = Value.ref c ∧ IsTupleKey (IK prog w) s'.heap k c := fun u hu => hall u (List.mem_cons_of_mem _ hu)
    dsimp only
    by_cases q : (b == c || (carriedByValue (.ref b) && carriedByValue (.ref c))) = true
    · rw [if_pos q]
      exact wpAny_pure ⟨rfl, rfl, hrest⟩
    · rw [if_neg q]
      refine wpAny_bind (wpAny_eqIsQuiet_tuple hk ?_)
      simp only [Bool.not_true, Bool.false_eq_true, if_false]
      refine wpAny_bind (wpAny_eqIsQuiet_tuple hkc ?_)
      simp only [Bool.not_true, Bool.false_eq_true, if_false]
      refine wpAny_bind (ocs_tuple hk ?_)
      simp only [Bool.false_eq_true, if_false]
      refine wpAny_bind (ocs_tuple hkc ?_)
      simp only [Bool.false_eq_true, if_false]
      exact wpAny_pure ⟨rfl, rfl, hrest⟩
  · rintro ⟨r1, r2⟩ s' ⟨hr, rfl, _⟩
    simp only at hr
    subst hr
    exact wpAny_pure h
theorem key_same {h h' : Heap} {ks : List Int} {b a : Addr} (x : IsTupleKey (IK prog w) h ks b) (hs : Heap.SameBut a h h') (hne : b ≠ a) : IsTupleKey (IK prog w) h' ks b := by
  obtain ⟨o', items, n, ho', hc, hd', hi⟩ := x
  exact ⟨o', items, n, (hs.2 b hne).trans ho', hc, hd', hi⟩
theorem key_up {h h' : Heap} {ks : List Int} {b : Addr} (x : IsTupleKey (IK prog w) h ks b) (hs : ∀ o, h.get? b = some o → h'.get? b = some o) : IsTupleKey (IK prog w) h' ks b := by
  obtain ⟨o', items, n, ho', hc, hd', hi⟩ := x
  exact ⟨o', items, n, hs _ ho', hc, hd', hi⟩
end
end Tab

namespace Tab
open PySem PySem.SetTable
section
variable {prog : Program} {w : World} {A : Around} {E : Value → Shared → Prop} {s : Shared}
noncomputable abbrev Ky := List Int × Addr
noncomputable def enc (prog : Program) (w : World) (y : Ky) : El := (tupleKeyHash (IK prog w) y.1, .ref y.2)
theorem Mk.odd {m : Nat} (h : Mk m) : m % 2 = 1 := by rcases h with rfl | rfl | rfl | rfl <;> rfl
theorem TOk.fits {t : SetTable} {L : List (Nat × El)} {es : Array El} (T : TOk t L) (hes : es.toList = L.map (·.2)) : t.fits es.size = true := by
  have h1 : es.size = L.length := by rw [← Array.length_toList, hes, List.length_map]
  unfold SetTable.fits SetTable.fill
  rw [T.dm, T.size, h1]
  have := T.few
  simpa using this
theorem search_ok {a b : Addr} {k : List Int} {o : Obj} {es : Array El} {ep : Nat} {t : SetTable} {L : List (Nat × El)} {ys : List Ky} (hu : A.units < cLine) (hk : IsTupleKey (IK prog w) s.heap k b) (ho : s.heap.get? a = some o) (hd : o.data = .set es ep t)
    (hes : es.toList = L.map (·.2)) (T : TOk t L) (hy : L.map (·.2) = ys.map (enc prog w)) (hys : ∀ y ∈ ys, IsTupleKey (IK prog w) s.heap y.1 y.2)
    {e : Nat} (he : (sq t.mask (tupleKeyHash (IK prog w) k) e).j ∉ L.map (·.1)) (hb : ∀ m, m < e → (sq t.mask (tupleKeyHash (IK prog w) k) m).j ∈ L.map (·.1)) (heb : e < 10 * turns t.mask) {Q : SetFound → Shared → Prop}
    (hin : k ∈ ys.map (·.1) → Q (.there none) s) (hout : k ∉ ys.map (·.1) → Q (.free (sq t.mask (tupleKeyHash (IK prog w) k) e).j false) s) :
    ∀ (F n : Nat) (stand : Option Probe), stand.getD (t.probeStart (tupleKeyHash (IK prog w) k)) = sq t.mask (tupleKeyHash (IK prog w) k) n → n ≤ e → e - n < F →
      (∀ m', m' < n → ∀ (i : Nat) (hi : i < L.length) (y : Ky), L[i].1 = (sq t.mask (tupleKeyHash (IK prog w) k) m').j → ys[i]? = some y → y.1 ≠ k) →
      wpAny (model prog w) A (setSearchFrom a (.ref b) (tupleKeyHash (IK prog w) k) true F stand) Q E s := by
  have hf := T.fits hes
  have hly : L.length = ys.length := by have := congrArg List.length hy; simpa using this
  have hgw : t.gaveWay = false := by
    unfold SetTable.gaveWay
    rw [T.msk.odd]; rfl
  have hel : ∀ (i : Nat) (hi : i < L.length), ∃ y, ys[i]? = some y ∧ es[i]? = some (enc prog w y) ∧ L[i].2 = enc prog w y := fun i hi => by
    have hi2 : i < ys.length := by (clear heb hu; omega)
    have h1 : (L.map (·.2))[i]? = some L[i].2 := by rw [List.getElem?_map, List.getElem?_eq_getElem hi]; rfl
    have h2 : (L.map (·.2))[i]? = some (enc prog w ys[i]) := by rw [hy, List.getElem?_map, List.getElem?_eq_getElem hi2]; rfl
    refine ⟨ys[i], List.getElem?_eq_getElem hi2, ?_, ?_⟩
    · rw [← Array.getElem?_toList, hes, h2]
    · rw [h1] at h2; exact Option.some.inj h2
  intro F
  induction F with
  | zero => intro n _ _ _ h; (clear hly heb hu; omega)
  | succ F ih =>
    intro n stand hst hn hF hno
    unfold setSearchFrom
    refine wpAny_bind (wpAny_setState_of ho hd hf ?_)
    dsimp only
    rw [if_neg (by rw [hgw]; exact Bool.false_ne_true)]
    generalize hpr : SetTable.probe t _ _ _ = r
    obtain ⟨f, hfi, hpr⟩ : ∃ f : Nat → Int, (∀ (i : Nat) (hi : i < L.length), f i = L[i].2.1) ∧ SetTable.probe t f (tupleKeyHash (IK prog w) k) (stand.getD (t.probeStart (tupleKeyHash (IK prog w) k))) = r := ⟨_, fun i hi => by
      obtain ⟨y, h1, h2, h3⟩ := hel i hi
      show ((es[i]?.map (·.1)).getD 0) = _
      rw [h2, h3]; rfl, hpr⟩
    rw [hst] at hpr
    obtain ⟨m, g1, g2, g3, g4⟩ := T.probe_go he hb f (10 * turns t.mask) n hn (by (clear hF hn hly hu; omega))
    have hpr : SetTable.probe.go t f (tupleKeyHash (IK prog w) k) (10 * turns t.mask) (sq t.mask (tupleKeyHash (IK prog w) k) n) = r := hpr
    rcases g4 with ⟨rfl, g4⟩ | ⟨g5, i, hi, g6, g7, g4⟩
    · rw [g4] at hpr
      subst hpr
      dsimp only
      refine wpAny_pure (hout fun hc => ?_)
      obtain ⟨y, hyy, rfl⟩ := List.mem_map.mp hc
      obtain ⟨i, hi, rfl⟩ := List.getElem_of_mem hyy
      have hiL : i < L.length := by (clear g2 hF hn heb g1 hu; omega)
      obtain ⟨y', h1, h2, h3⟩ := hel i hiL
      have ey : y' = ys[i] := by rw [List.getElem?_eq_getElem hi] at h1; exact (Option.some.inj h1).symm
      subst ey
      have hq : L[i] ∈ L := List.getElem_mem _
      have hh : L[i].2.1 = tupleKeyHash (IK prog w) ys[i].1 := by rw [h3]; rfl
      obtain ⟨m', c1, c2⟩ := T.met hq (e := m) (by rw [hh]; exact he)
      rw [hh] at c2
      by_cases c : m' < n
      · exact hno m' c i hiL ys[i] c2.symm h1 rfl
      · exact g3 m' (by (clear c2 c1 hh g2 hF hn heb g1 hly hu; omega)) c1 i hiL c2.symm (by rw [hfi i hiL, hh])
    · rw [g4] at hpr
      subst hpr
      dsimp only
      have hst2 : ∀ v ∈ (es.filter (fun x => x.1 == tupleKeyHash (IK prog w) k)).toList.map (·.2), ∃ k c, v = .ref c ∧ IsTupleKey (IK prog w) s.heap k c := fun v hv => by
        obtain ⟨x, hx, rfl⟩ := List.mem_map.mp hv
        have hx2 : x ∈ es.toList := by
          rw [Array.toList_filter] at hx
          exact (List.mem_filter.mp hx).1
        rw [hes, hy] at hx2
        obtain ⟨y, hyy, rfl⟩ := List.mem_map.mp hx2
        exact ⟨y.1, y.2, rfl, hys y hyy⟩
      obtain ⟨y, h1, h2, h3⟩ := hel i hi
      have hyy : y ∈ ys := List.mem_of_getElem? h1
      have hslot : t.slot (sq t.mask (tupleKeyHash (IK prog w) k) m).j = .live i := by
        have hi2 : i < t.place.size := by rw [T.size]; exact hi
        rw [← g6, ← T.at hi2]; exact slot_live T.rise hi2
      have hsm : t.sameMemory t.moves t.mask = some true := by simp [SetTable.sameMemory]
      have hno2 : y.1 ≠ k → ∀ m', m' < m + 1 → ∀ (i : Nat) (hi : i < L.length) (y : Ky), L[i].1 = (sq t.mask (tupleKeyHash (IK prog w) k) m').j → ys[i]? = some y → y.1 ≠ k := by
        intro hc m' hm' i' hi' y' e1 e2 e3
        by_cases c1 : m' < n
        · exact hno m' c1 i' hi' y' e1 e2 e3
        by_cases c2 : m' < m
        · refine g3 m' (by (clear c2 e1 hi' hm' g7 g6 g5 g2 g1 hF hn hly heb hu; omega)) c2 i' hi' e1 ?_
          obtain ⟨y2, q1, q2, q3⟩ := hel i' hi'
          rw [e2] at q1
          cases q1
          rw [hfi i' hi', q3, ← e3]; rfl
        · have : m' = m := by (clear c1 e1 hi' g7 g6 g5 g2 g1 hF hn hly heb hu; omega)
          subst this
          have ei : i' = i := by
            have e4 : L[i'].1 = L[i].1 := by rw [e1, g6]
            rcases Nat.lt_trichotomy i' i with z | z | z
            · have := List.pairwise_iff_getElem.mp T.up i' i hi' hi z; (clear z e4 c2 hm' g5 g2 g1 c1 g7 hF hn hly heb hu; omega)
            · exact z
            · have := List.pairwise_iff_getElem.mp T.up i i' hi hi' z; (clear z e4 c2 hm' g5 g2 g1 c1 g7 hF hn hly heb hu; omega)
          subst ei
          rw [h1] at e2
          cases e2
          exact hc e3
      cases hl : t.led
      · rw [if_pos (by simp)]
        refine wpAny_bind (seen_no hk hst2 ?_)
        rw [if_neg Bool.false_ne_true]
        rw [h2]
        dsimp only [enc]
        refine wpAny_bind (wpAny_holding (wpAny_eqBool_tuple hu (hys y hyy) hk ?_))
        refine wpAny_bind (wpAny_setState_of ho hd hf ?_)
        dsimp only
        by_cases c : y.1 = k
        · rw [decide_eq_true c]
          exact wpAny_pure (hin (List.mem_map.mpr ⟨y, hyy, c⟩))
        · rw [decide_eq_false c, if_neg (by simp), hsm]
          dsimp only
          rw [if_pos rfl, hslot]
          dsimp only
          rw [h2]
          dsimp only [enc]
          refine wpAny_bind (wpAny_isSame_ref_self ?_)
          refine wpAny_bind (wpAny_pure ?_)
          rw [if_pos rfl]
          dsimp only
          rw [if_neg Bool.false_ne_true]
          exact ih (m + 1) (some _) rfl (by (clear g7 g6 g2 g1 hF hn hly heb hu; omega)) (by (clear g7 g6 g2 hn hly heb hu; omega)) (hno2 c)
      · rw [if_neg (by simp)]
        rw [h2]
        dsimp only [enc]
        refine wpAny_bind (wpAny_holding (wpAny_eqBool_tuple hu (hys y hyy) hk ?_))
        refine wpAny_bind (wpAny_setState_of ho hd hf ?_)
        dsimp only
        by_cases c : y.1 = k
        · rw [decide_eq_true c]
          exact wpAny_pure (hin (List.mem_map.mpr ⟨y, hyy, c⟩))
        · rw [decide_eq_false c, if_neg (by simp), hsm]
          dsimp only
          rw [if_pos rfl, hslot]
          dsimp only
          rw [h2]
          dsimp only [enc]
          refine wpAny_bind (wpAny_isSame_ref_self ?_)
          refine wpAny_bind (wpAny_pure ?_)
          rw [if_pos rfl]
          dsimp only
          rw [if_neg Bool.false_ne_true]
          exact ih (m + 1) (some _) rfl (by (clear g7 g6 g2 g1 hF hn hly heb hu; omega)) (by (clear g7 g6 g2 hn hly heb hu; omega)) (hno2 c)
end
end Tab

namespace Tab
open PySem PySem.SetTable
section
variable {prog : Program} {w : World} {A : Around} {E : Value → Shared → Prop} {s : Shared}
noncomputable def SetT (prog : Program) (w : World) (h : Heap) (a : Addr) (led : Bool) (ys : List Ky) : Prop :=
  ∃ o es ep t L, h.get? a = some o ∧ o.ExactSet ∧ o.data = .set es ep t ∧ es.toList = L.map (·.2) ∧ TOk t L ∧ t.led = led ∧ t.plain = true ∧ L.length * 5 < t.mask * 3 ∧ L.map (·.2) = ys.map (enc prog w) ∧ (∀ y ∈ ys, IsTupleKey (IK prog w) h y.1 y.2) ∧ (ys.map (·.1)).Nodup
theorem grow_at {mask n : Nat} (hm : Mk mask) (h1 : n * 5 ≥ mask * 3) (h2 : (n - 1) * 5 < mask * 3) (h3 : n ≤ 300) : Mk (sizeAbove (grown n) - 1) ∧ n ≤ sizeAbove (grown n) - 1 ∧ n * 5 < (sizeAbove (grown n) - 1) * 3 ∧ sizeAbove (grown n) ≤ 512 := by
  rcases hm with rfl | rfl | rfl | rfl
  · have : n = 5 := by (clear h3; omega)
    subst this
    have e : sizeAbove (grown 5) = 32 := by decide +kernel
    rw [e]
    exact ⟨.inr (.inl rfl), by decide, by decide, by decide⟩
  · have : n = 19 := by (clear h3; omega)
    subst this
    have e : sizeAbove (grown 19) = 128 := by decide +kernel
    rw [e]
    exact ⟨.inr (.inr (.inl rfl)), by decide, by decide, by decide⟩
  · have : n = 77 := by (clear h3; omega)
    subst this
    have e : sizeAbove (grown 77) = 512 := by decide +kernel
    rw [e]
    exact ⟨.inr (.inr (.inr rfl)), by decide, by decide, by decide⟩
  · (clear h2; omega)
theorem put_get {h : Heap} {a : Addr} {o : Obj} {es : Array El} {ep : Nat} {t : SetTable} (ho : h.get? a = some o) (hd : o.data = .set es ep t) (es' : Array El) (t' : SetTable) :
    (h.update a (Obj.putSet es' t')).get? a = some { o with data := .set es' (ep + 1) t' } := by
  have := Heap.get?_update_self (Obj.putSet es' t') ho (by rw [putSet_of es' t' hd]; rfl)
  rw [putSet_of es' t' hd] at this; exact this
theorem key_ne {h : Heap} {a b : Addr} {o : Obj} {es : Array El} {ep : Nat} {t : SetTable} {k : List Int} (ho : h.get? a = some o) (hd : o.data = .set es ep t) (x : IsTupleKey (IK prog w) h k b) : b ≠ a := by
  rintro rfl
  obtain ⟨o', items, n, ho', hc, hd', hi⟩ := x
  rw [ho] at ho'
  cases ho'
  rw [hd] at hd'
  cases hd'
theorem add_ok {a b : Addr} {k : List Int} {led : Bool} {ys : List Ky} {Q : Bool → Shared → Prop} (hu : A.units < cLine) (hk : IsTupleKey (IK prog w) s.heap k b) (hS : SetT prog w s.heap a led ys) (hroom : ys.length + 1 ≤ 300)
    (h : ∀ h' ys', Heap.SameBut a s.heap h' → SetT prog w h' a led ys' → ((k ∈ ys.map (·.1) ∧ ys' = ys) ∨ (k ∉ ys.map (·.1) ∧ ys'.Perm ((k, b) :: ys))) → ∀ r, Q r { s with heap := h' }) :
    wpAny (model prog w) A (setAddHashed a (.ref b) (tupleKeyHash (IK prog w) k)) Q E s := by
  obtain ⟨o, es, ep, t, L, ho, hex, hd, hes, T, hl, hp, hfill, hy, hys, hnd⟩ := id hS
  have hf := T.fits hes
  have hly : L.length = ys.length := by have := congrArg List.length hy; simpa using this
  have hesz : es.size = L.length := by rw [← Array.length_toList, hes, List.length_map]
  obtain ⟨e, heb, he, hb⟩ := T.first (tupleKeyHash (IK prog w) k)
  have hmk : t.mask ≤ 511 ∧ 7 ≤ t.mask := by rcases T.msk with q | q | q | q <;> rw [q] <;> decide
  have hbn := key_ne ho hd hk
  unfold setAddHashed setAddHashedIn
  refine wpAny_holding (wpAny_bind (wpAny_setState_of ho hd hf ?_))
  dsimp only
  have hsc : byScan (.ref b) es = false := by simp [byScan, Value.scannable]
  rw [hsc]
  simp only [Bool.false_eq_true, ↓reduceIte]
  unfold setSearch
  refine wpAny_bind (search_ok hu hk ho hd hes T hy hys he hb heb (fun hin => ?_) (fun hout => ?_) 100000 0 none rfl (Nat.zero_le _) (by unfold turns at heb; (clear hbn hesz hly hfill hroom hu; omega)) fun m' hm => absurd hm (Nat.not_lt_zero _))
  · have e : s = { s with heap := s.heap } := by cases s; rfl
    rw [e]
    exact wpAny_pure (h s.heap ys (Heap.SameBut.refl a s.heap) hS (.inl ⟨hin, rfl⟩) _)
  · dsimp only
    refine wpAny_bind (wpAny_setState_of ho hd hf ?_)
    obtain ⟨L', T', hpm, hins⟩ := T.put (x := .ref b) he hb (by (clear hbn hmk heb hesz hly hroom hu; omega))
    have hins := hins es hes
    have hL' : L'.length = L.length + 1 := by rw [hpm.length_eq, List.length_cons]
    generalize hput : t.put (sq t.mask (tupleKeyHash (IK prog w) k) e).j = tp at T' hins
    obtain ⟨t1, p1⟩ := tp
    dsimp only at T' hins ⊢
    have ht1 : t1.plain = true ∧ t1.led = led ∧ t1.mask = t.mask := by
      have : t1 = (t.put (sq t.mask (tupleKeyHash (IK prog w) k) e).j).1 := by rw [hput]
      rw [this]
      exact ⟨hp, hl, rfl⟩
    rw [if_pos ht1.1]
    refine wpAny_bind (hbv_tuple hk ?_)
    simp only [if_true]
    have hp2 : (L'.map (·.2)).Perm (((k, b) :: ys).map (enc prog w)) := by
      have := hpm.map (·.2)
      rw [List.map_cons, hy] at this
      exact this
    obtain ⟨ys1, hy1, hpy1⟩ := Tim.perm_map_inv hp2
    have hnd1 : (ys1.map (·.1)).Nodup := by
      rw [(hpy1.map (·.1)).nodup_iff, List.map_cons, List.nodup_cons]
      exact ⟨hout, hnd⟩
    have hkeys1 : ∀ y ∈ ys1, IsTupleKey (IK prog w) s.heap y.1 y.2 ∧ y.2 ≠ a := fun y hyy => by
      rcases List.mem_cons.mp (hpy1.mem_iff.mp hyy) with rfl | hyy
      · exact ⟨hk, hbn⟩
      · exact ⟨hys y hyy, key_ne ho hd (hys y hyy)⟩
    have hsz1 : (insertAt es p1 (tupleKeyHash (IK prog w) k, Value.ref b)).size = L'.length := by rw [← Array.length_toList, hins, List.length_map]
    refine wpAny_bind (wpAny_storeSet_of ho hd ?_ (by rw [hsz1, sizeLine_eq]; (clear hsz1 ht1 hbn hmk heb hesz hfill hu; omega)))
    have hg1 := put_get ho hd (insertAt es p1 (tupleKeyHash (IK prog w) k, Value.ref b)) t1
    have sb1 := Heap.SameBut.update s.heap a (Obj.putSet (insertAt es p1 (tupleKeyHash (IK prog w) k, Value.ref b)) t1)
    have hf1 := T'.fits hins
    by_cases c : (!false && t1.tooFull) = true
    · rw [if_pos c]
      have c2 : t1.fill * 5 ≥ t1.mask * 3 := by
        have : t1.tooFull = true := by simpa using c
        unfold SetTable.tooFull at this
        simpa using this
      have hfl : t1.fill = L'.length := by
        unfold SetTable.fill
        rw [T'.dm, T'.size]; rfl
      rw [hfl] at c2
      obtain ⟨k1, k2, k3, k4⟩ := grow_at T'.msk c2 (by rw [hL', ht1.2.2]; show (L.length + 1 - 1) * 5 < _; (clear hfl c2 hsz1 ht1 hL' hbn hmk heb hesz hly hroom hu; omega)) (by (clear hfl c2 hsz1 ht1 hbn hmk heb hesz hfill hu; omega))
      rw [hL', ← hesz] at k1 k2 k3 k4
      unfold setRelay
      refine wpAny_bind (wpAny_bind (wpAny_setState_of hg1 rfl hf1 ?_))
      dsimp only
      rw [if_neg (by rw [sizeLine_eq]; (clear k3 k2 hfl c2 hsz1 ht1 hL' hbn hmk heb hesz hly hfill hroom hu; omega))]
      obtain ⟨t2, order, L2, r1, r2, r3, r4, r5, r6, r7, _⟩ := relaid_ok (t := t1) (es := insertAt es p1 (tupleKeyHash (IK prog w) k, Value.ref b)) (wanted := grown (es.size + 1)) k1 (by rw [hsz1, hL', ← hesz]; exact k2)
      rw [r1]
      have hsz2 : (order.filterMap ((insertAt es p1 (tupleKeyHash (IK prog w) k, Value.ref b))[·]?)).size = (insertAt es p1 (tupleKeyHash (IK prog w) k, Value.ref b)).size := by
        rw [← Array.length_toList, r2, r4.length_eq, Array.length_toList]
      refine wpAny_bind (show wpAny (model prog w) A (if ((order.filterMap ((insertAt es p1 (tupleKeyHash (IK prog w) k, Value.ref b))[·]?)).size != (insertAt es p1 (tupleKeyHash (IK prog w) k, Value.ref b)).size) = true then (unsupported "internal:set-table-lost-an-element" >>= fun _ => pure (order.filterMap ((insertAt es p1 (tupleKeyHash (IK prog w) k, Value.ref b))[·]?), t2)) else pure (order.filterMap ((insertAt es p1 (tupleKeyHash (IK prog w) k, Value.ref b))[·]?), t2)) _ _ _ from ?_)
      rw [if_neg (by rw [hsz2]; simp)]
      refine wpAny_pure ?_
      dsimp only
      refine wpAny_storeSet_of hg1 rfl ?_ (by rw [hsz2, hsz1, sizeLine_eq]; (clear hsz2 r7 k4 k3 k2 hfl c2 hsz1 ht1 hbn hmk heb hesz hfill hu; omega))
      have hg2 := put_get hg1 rfl (order.filterMap ((insertAt es p1 (tupleKeyHash (IK prog w) k, Value.ref b))[·]?)) t2
      have sb2 := sb1.trans (Heap.SameBut.update _ a (Obj.putSet (order.filterMap ((insertAt es p1 (tupleKeyHash (IK prog w) k, Value.ref b))[·]?)) t2))
      rw [hins, hy1] at r4
      obtain ⟨ys2, hy2, hpy2⟩ := Tim.perm_map_inv r4
      have hL2 : L2.length = L'.length := by
        have h1 := congrArg List.length hy2
        have h2 := congrArg List.length hy1
        rw [List.length_map, List.length_map] at h1 h2
        rw [h1, hpy2.length_eq, ← h2]
      refine wpAny_pure (h _ ys2 sb2 ⟨_, _, _, t2, L2, hg2, hex, rfl, r2, r3, r5.trans ht1.2.1, r6.trans ht1.1, ?_, hy2, fun y hyy => ?_, ?_⟩ (.inr ⟨hout, hpy2.trans hpy1⟩) _)
      · rw [hL2, hL', r7, ← hesz]; exact k3
      · have := hkeys1 y (hpy2.mem_iff.mp hyy)
        exact key_same this.1 sb2 this.2
      · rw [(hpy2.map (·.1)).nodup_iff]; exact hnd1
    · rw [if_neg c]
      have c2 : L'.length * 5 < t1.mask * 3 := by
        have hfl : t1.fill = L'.length := by
          unfold SetTable.fill
          rw [T'.dm, T'.size]; rfl
        rw [← hfl]
        refine Nat.lt_of_not_le fun z => c ?_
        show t1.tooFull = true
        unfold SetTable.tooFull
        exact decide_eq_true z
      exact wpAny_pure (h _ ys1 sb1 ⟨_, _, _, t1, L', hg1, hex, rfl, hins, T', ht1.2.1, ht1.1, c2, hy1, fun y hyy => key_same (hkeys1 y hyy).1 sb1 (hkeys1 y hyy).2, hnd1⟩ (.inr ⟨hout, hpy1⟩) _)
end
end Tab

namespace Tab
open PySem PySem.SetTable PyProof.Rows
noncomputable abbrev ledOf (w : World) : Bool := !w.params.followText "set-order"
noncomputable abbrev newO (w : World) : Obj := { cls := .type "set", dict := none, data := .set #[] 0 (.fresh 0 0 (ledOf w)) }
section
variable {prog : Program} {w : World} {A : Around} {E : Value → Shared → Prop} {s : Shared}
theorem new1 (v : Value) {Q : Value → Shared → Prop} (h : Q (.ref s.heap.objs.size) { s with heap := s.heap.push (newO w) }) :
    codeAny (model prog w) A (.call (.builtin "set.__new__") ⟨[.type "set", v], []⟩) (wants Q E) s := by
  refine codeAny_of_tree ?_
  show wpAny (model prog w) A.in1 (do checkBuiltinCall "set.__new__" ⟨[.type "set", v], []⟩; again (.builtin "set.__new__" ⟨[.type "set", v], []⟩)) _ _ s
  refine wpAny_bind (wpAny_of_eq (F.newCall_set_1 v) (wpAny_pure ⟨plainId_quiet F.plain_set_new _, codeAny_builtin F.entry_set_new ?_⟩))
  rw [Around.under_plainId F.plain_set_new _]
  unfold Builtin.«set.__new__» Builtin.Frozenset.newClass
  have h1 := sub_set_self
  obtain ⟨hp, g, d, tk, os⟩ := s
  dsimp only
  wp_walk
  refine wpAny_askSetting (wpAny_pure ?_)
  dsimp only
  simp only [newObj]
  exact wpAny_bind (wpAny_alloc (wpAny_pure (wpAny_pure h)))
noncomputable def Met1 (xs ys : List Ky) (i : Nat) : Prop := (∀ k, k ∈ ys.map (·.1) ↔ k ∈ (xs.take i).map (·.1)) ∧ ∀ y ∈ ys, y ∈ xs
theorem SetT.at {h h' : Heap} {a : Addr} {led : Bool} {ys : List Ky} (x : SetT prog w h a led ys) (e : ∀ b o, (b = a ∨ ∃ y ∈ ys, b = y.2) → h.get? b = some o → h'.get? b = some o) : SetT prog w h' a led ys := by
  obtain ⟨o, es, ep, t, L, ho, h1, h2, h3, h4, h5, h6, h7, h8, h9, h10⟩ := x
  exact ⟨o, es, ep, t, L, e a o (.inl rfl) ho, h1, h2, h3, h4, h5, h6, h7, h8, fun y hy => key_up (h9 y hy) fun o' => e _ o' (.inr ⟨y, hy, rfl⟩), h10⟩
theorem SetT.nd {h : Heap} {a : Addr} {led : Bool} {ys : List Ky} (x : SetT prog w h a led ys) : (ys.map (·.1)).Nodup := by
  obtain ⟨o, es, ep, t, L, ho, h1, h2, h3, h4, h5, h6, h7, h8, h9, h10⟩ := x
  exact h10
theorem loop_ok {R : Result → Shared → Prop} {I S : Addr} {fp wr : List Addr} {G : Array GenState → Array GenState → Prop} {xs : List Ky} {St : Nat → Shared → Prop} {led : Bool}
    (W : WalksS prog w A.in1 I fp wr G xs.length (fun i v => ∃ y, xs[i]? = some y ∧ v = .ref y.2) St) (hu : A.units + 8 < cLine) (hSf : S ∉ fp) (hxw : ∀ y ∈ xs, y.2 ∉ S :: wr)
    (hD : ∀ l : List Ky, (l.map (·.1)).Nodup → (∀ y ∈ l, y ∈ xs) → l.length ≤ 299) :
    ∀ (n i : Nat) (s : Shared) (ys : List Ky), xs.length - i = n → i ≤ xs.length → St i s → (∀ y ∈ xs, IsTupleKey (IK prog w) s.heap y.1 y.2) → SetT prog w s.heap S led ys → Met1 xs ys i →
      (∀ s' ys', Moved (S :: wr) G s s' → SetT prog w s'.heap S led ys' → Met1 xs ys' xs.length → R (.ok (.ret .none)) s') →
      codeAny (model prog w) A (.builtin "set.update.loop" ⟨[.ref S, .ref I], []⟩) R s := by
  have hSw : S ∉ wr := fun h => hSf (W.sub _ h)
  have hsub : ∀ b ∈ wr, b ∈ S :: wr := fun b hb => List.mem_cons_of_mem _ hb
  have keep : ∀ {s s' : Shared} {ys : List Ky}, Moved wr G s s' → SetT prog w s.heap S led ys → (∀ y ∈ ys, y ∈ xs) → SetT prog w s'.heap S led ys := fun hm hS hy => hS.at fun b o hb e => hm.heap b o (by
    rcases hb with rfl | ⟨y, hyy, rfl⟩
    · exact hSw
    · exact fun z => hxw y (hy y hyy) (hsub _ z)) e
  intro n
  induction n with
  | zero =>
    intro i s ys hn hi hst hk hS hM hR
    have e : i = xs.length := by omega
    subst e
    refine codeAny_builtin F.entry_set_update_loop ?_
    rw [Around.under_plainId F.plain_set_update_loop _]
    show wpAny (model prog w) A.in1 (pyNext (.ref I) >>= _) _ _ s
    refine wpAny_bind (W.done s _ _ hst fun s' hm => ?_)
    show wpAny (model prog w) A.in1 (ret Value.none) _ _ s'
    exact wpAny_pure (hR s' ys (hm.mono hsub) (keep hm hS hM.2) hM)
  | succ n ih =>
    intro i s ys hn hi hst hk hS hM hR
    have hlt : i < xs.length := by omega
    refine codeAny_builtin F.entry_set_update_loop ?_
    rw [Around.under_plainId F.plain_set_update_loop _]
    show wpAny (model prog w) A.in1 (pyNext (.ref I) >>= _) _ _ s
    refine wpAny_bind (W.item i s _ _ hlt hst fun v s' hP hst' hm => ?_)
    obtain ⟨y, hy, rfl⟩ := hP
    have hyx : y ∈ xs := List.mem_of_getElem? hy
    have hS' := keep hm hS hM.2
    have hk' : ∀ y ∈ xs, IsTupleKey (IK prog w) s'.heap y.1 y.2 := fun y hy => key_up (hk y hy) fun o e => hm.heap y.2 o (fun z => hxw y hy (hsub _ z)) e
    show wpAny (model prog w) A.in1 (holding [Value.ref y.2] (setAdd S (.ref y.2)) >>= _) _ _ s'
    refine wpAny_bind (wpAny_holding ?_)
    unfold setAdd
    refine wpAny_holding ?_
    refine wpAny_bind (wpAny_pyHash_tuple (show A.in1.units < cLine by show A.units + 1 < cLine; omega) (hk' y hyx) ?_)
    refine add_ok (s := { s' with toks := s'.toks + (y.1.length + 1) }) (show A.in1.units < cLine by show A.units + 1 < cLine; omega) (hk' y hyx) hS' (by have := hD ys hS.nd hM.2; omega) fun h' ys' hsb hS2 hcase r => ?_
    have hM' : Met1 xs ys' (i + 1) := by
      have et : xs.take (i + 1) = xs.take i ++ [y] := by rw [List.take_add_one, hy]; rfl
      rcases hcase with ⟨c1, rfl⟩ | ⟨c1, c2⟩
      · refine ⟨fun k => ?_, hM.2⟩
        rw [hM.1 k, et, List.map_append, List.mem_append]
        refine ⟨.inl, fun h => h.elim id fun h => ?_⟩
        have : k = y.1 := by simpa using h
        subst this
        exact (hM.1 _).mp c1
      · refine ⟨fun k => ?_, fun z hz => ?_⟩
        · rw [(c2.map (·.1)).mem_iff, List.map_cons, List.mem_cons, hM.1 k, et, List.map_append, List.mem_append]
          exact ⟨fun h => h.elim (fun e => .inr (by simp [e])) .inl, fun h => h.elim .inr fun e => .inl (by simpa using e)⟩
        · rcases List.mem_cons.mp (c2.mem_iff.mp hz) with rfl | hz
          · exact hyx
          · exact hM.2 z hz
    refine wpAny_pure ⟨plainId_quiet F.plain_set_update_loop _, ih (i + 1) _ ys' (by omega) hlt (W.frame _ s' _ _ hst' (Nat.le_add_right _ _) fun b hb o e => ?_) (fun z hz => key_up (hk' z hz) fun o e => ?_) hS2 hM' fun s'' ys'' hm'' hS'' hM'' => ?_⟩
    · rw [hsb.2 b (fun h : b = S => hSf (by rw [← h]; exact hb))]; exact e
    · rw [hsb.2 z.2 (fun h => hxw z hz (by rw [h]; exact List.mem_cons_self))]; exact e
    · refine hR s'' ys'' (Moved.trans W.gtrans ((hm.mono hsub).then_heap (Nat.le_add_right _ _) fun b o hb e => ?_) hm'') hS'' hM''
      rw [hsb.2 b (fun h : b = S => hb (by rw [h]; exact List.mem_cons_self))]; exact e
end
end Tab

namespace Tab
open PySem PySem.SetTable PyProof.Rows
section
variable {prog : Program} {w : World} {A : Around} {E : Value → Shared → Prop} {s : Shared}
theorem fresh_set {h : Heap} {a : Addr} (hg : h.get? a = some (newO w)) : SetT prog w h a (ledOf w) [] :=
  ⟨_, #[], 0, _, [], hg, ⟨rfl, rfl, rfl⟩, rfl, rfl, fresh_ok _, rfl, rfl, (by show 0 * 5 < 7 * 3; decide), rfl, (fun _ h => (nomatch h)), List.Pairwise.nil⟩
set_option maxHeartbeats 3200000 in
theorem call_setL {l : Addr} {its : Array Value} {xs : List Ky} {Q : Value → Shared → Prop} (hh : A.handled = none) (hu : A.units + 32 < cLine) (hl : s.heap.IsList l its) (hi : its.toList = xs.map fun y => Value.ref y.2)
    (hk : ∀ y ∈ xs, IsTupleKey (IK prog w) s.heap y.1 y.2) (hD : ∀ l : List Ky, (l.map (·.1)).Nodup → (∀ y ∈ l, y ∈ xs) → l.length ≤ 299)
    (h : ∀ (h2 : Heap) (tk : Nat) (ys : List Ky), SetT prog w h2 s.heap.objs.size (ledOf w) ys → Met1 xs ys xs.length → s.heap.objs.size < h2.objs.size →
      (∀ b o, b < s.heap.objs.size → s.heap.get? b = some o → h2.get? b = some o) → Q (.ref s.heap.objs.size) { s with heap := h2, toks := tk }) :
    wpAny (model prog w) A (call (.type "set") [.ref l]) Q E s := by
  obtain ⟨c, tl, h0⟩ := F.called_set.mro
  have h3 := F.called_set.made
  have h4 := F.called_set.sub
  refine wpAny_call (codeAny_of_tree ?_)
  show wpAny (model prog w) _ (callAny (.type "set") _) _ _ _
  refine wpAny_pure ⟨Code.quiet_builtin _ (by decide +kernel), codeAny_builtin F.entry_type_call ?_⟩
  rw [Around.under_plain (weight_type_call_type "set" [.ref l] []) rfl]
  have h1 := F.called_set.notType
  have h2 := F.called_set.canCreate
  have h5 := F.typeCall_set_1 (.ref l)
  repeat (any_goals (first | assumption | wp_step))
  refine codeAny_mono (new1 (.ref l) (E := E) (Q := fun v s1 => v = .ref s.heap.objs.size ∧ s1 = { s with heap := s.heap.push (newO w) }) ⟨rfl, rfl⟩) fun r s1 hr => ?_
  match r, hr with
  | .error e, hr => exact hr
  | .ok .next, hr => exact hr.elim
  | .ok .brk, hr => exact hr.elim
  | .ok .cont, hr => exact hr.elim
  | .ok (.ret v), hr =>
    obtain ⟨rfl, rfl⟩ := hr
    have k1 : (s.heap.push (newO w)).get? s.heap.objs.size = some (newO w) := Heap.get?_push_size _ rfl
    have k2 : Shared.TypeIs { s with heap := s.heap.push (newO w) } (.ref s.heap.objs.size) "set" := ⟨_, k1, rfl⟩
    have k3 := F.called_set.init.lookup
    have k4 := F.called_set.init.bind (.ref s.heap.objs.size)
    repeat (any_goals (first | assumption | wp_step))
    refine codeAny_mono (codeAny_call_builtin (R := wants (fun r s2 => r = .none ∧ ∃ h2 tk ys, s2 = { s with heap := h2, toks := tk } ∧ SetT prog w h2 s.heap.objs.size (ledOf w) ys ∧ Met1 xs ys xs.length ∧ s.heap.objs.size < h2.objs.size ∧
        (∀ b o, b < s.heap.objs.size → s.heap.get? b = some o → h2.get? b = some o)) E) F.called_set.init.plain F.entry_set_init (check_set_init_1 k2 ?_)) fun r2 s2 hr2 => ?_
    · obtain ⟨⟨oc, od, oda, os⟩, hol, hcl, nl, hdl⟩ := hl
      simp only at hcl hdl
      subst hcl hdl
      have k5 : (s.heap.push (newO w)).get? l = some { cls := .type "list", dict := od, data := .seq its nl, slots := os } := Heap.get?_push_of_some _ hol
      have k6 := F.sub_list_set
      have k7 := F.sub_list_frozenset
      have k8 : (Value.type "list" == Value.type "dict") = false := by decide
      have k9 : (s.heap.push (newO w)).IsList l its := ⟨_, k5, rfl, nl, rfl⟩
      unfold Builtin.«set.__init__» noKeywords Builtin.Frozenset.updateFrom
      generalize hPI : pyIter = PI
      wp_walk
      subst hPI
      refine wpAny_pyIter_list k9 ?_
      refine wpAny_bind (wpAny_runValue ?_)
      have j1 : l < s.heap.objs.size := Heap.lt_size hol
      have j2 : A.in1.in1.in1.handled = none := by simp [hh]
      have j3 : l ≠ (s.heap.push (newO w)).objs.size := by
        rw [Heap.size_push]; exact Nat.ne_of_lt (Nat.lt_succ_of_lt j1)
      have j4 : s.heap.objs.size ∉ [(s.heap.push (newO w)).objs.size, l] := by
        rw [Heap.size_push]; simp only [List.mem_cons, List.mem_singleton, List.not_mem_nil, or_false, not_or]
        exact ⟨Nat.ne_of_lt (Nat.lt_succ_self _), Nat.ne_of_gt j1⟩
      have j6 : its.size = xs.length := by rw [← Array.length_toList, hi, List.length_map]
      have W := (Walks.list (prog := prog) (w := w) j2 (s.heap.push (newO w)).objs.size l j3 its).toS
      have W2 : WalksS prog w A.in1.in1.in1 (s.heap.push (newO w)).objs.size [(s.heap.push (newO w)).objs.size, l] [(s.heap.push (newO w)).objs.size] (fun a b => b = a) xs.length (fun i v => ∃ y, xs[i]? = some y ∧ v = .ref y.2) _ := {
        sub := W.sub, grefl := W.grefl, gtrans := W.gtrans, frame := W.frame, self := W.self
        item := fun i s Q E hi2 st hQ => W.item i s Q E (by rw [j6]; exact hi2) st fun v s' hP => hQ v s' (by
          have e : its.toList[i]? = some v := by rw [Array.getElem?_toList]; exact hP
          rw [hi, List.getElem?_map] at e
          obtain ⟨y, h1, h2⟩ := Option.map_eq_some_iff.mp e
          exact ⟨y, h1, h2.symm⟩)
        done := fun s Q E st hQ => W.done s Q E (by rw [j6]; exact st) hQ }
      have hkb : ∀ y ∈ xs, y.2 < s.heap.objs.size := fun y hy => let ⟨_, _, _, ho, _⟩ := hk y hy; Heap.lt_size ho
      refine loop_ok (led := ledOf w) W2 (by show A.units + 1 + 1 + 8 < cLine; omega) j4 (fun y hy z => ?_) hD (xs.length - 0) 0 _ [] (by omega) (Nat.zero_le _) ⟨⟨_, Heap.get?_push_size _ rfl, rfl, rfl⟩, (k9.push _)⟩ (fun y hy => ?_) (fresh_set (Heap.get?_push_of_some _ k1)) ⟨fun k => by simp, fun _ h => (nomatch h)⟩ ?hR
      · have := hkb y hy
        rw [Heap.size_push] at z
        rcases List.mem_cons.mp z with z | z
        · exact Nat.lt_irrefl _ (z ▸ this)
        · have z := List.mem_singleton.mp z
          rw [z] at this
          exact absurd this (Nat.not_lt.mpr (Nat.le_succ _))
      · exact key_up (hk y hy) fun o e => Heap.get?_push_of_some _ (Heap.get?_push_of_some _ e)
      case hR =>
        intro s' ys hm hS' hM
        obtain ⟨h', g', d', tk', os'⟩ := s'
        have eg : g' = s.gens := hm.gens
        have ed : d' = s.drawn := hm.drawn
        have eo : os' = s.os := hm.os
        subst eg ed eo
        show wpAny _ _ _ _ _ _
        refine wpAny_pure ?_
        show wpAny (model prog w) _ (ret Value.none) _ _ _
        refine wpAny_pure ⟨rfl, h', tk', ys, rfl, hS', hM, ?_, fun b o hb e => ?_⟩
        · obtain ⟨o, _, _, _, _, ho, _⟩ := hS'
          exact Heap.lt_size ho
        have b1 : b ≠ s.heap.objs.size := Nat.ne_of_lt hb
        have b2 : b ≠ (s.heap.push (newO w)).objs.size := by
          rw [Heap.size_push]; exact Nat.ne_of_lt (Nat.lt_succ_of_lt hb)
        exact hm.heap b o (by simp only [List.mem_cons, List.mem_singleton, List.not_mem_nil, or_false, not_or]; exact ⟨b1, b2⟩) (Heap.get?_push_of_some _ (Heap.get?_push_of_some _ e))
    · match r2, hr2 with
      | .error e, hr2 => exact hr2
      | .ok .next, hr => exact hr.elim
      | .ok .brk, hr => exact hr.elim
      | .ok .cont, hr => exact hr.elim
      | .ok (.ret r), hr2 =>
        obtain ⟨rfl, h', tk, ys, rfl, hS', hM, hsz, hk'⟩ := hr2
        repeat (any_goals (first | assumption | wp_step))
        exact h _ _ _ hS' hM hsz hk'
end
end Tab

namespace Tab
open PySem PySem.SetTable PyProof.Rows
theorem entry_set_iter : entryFor table "set.__iter__" = some Builtin.«frozenset.__iter__» :=
  entryFor_alias (id' := "frozenset.__iter__") (by kernel_rfl) rfl (by decide +kernel) (by kernel_rfl)
theorem owner_si : Manifest.owners.lookup (String.ofList ['r', 'o', 't', 'a', 'r', 'e', 't', 'i', '_', 't', 'e', 's'].reverse) = some Manifest.sig_set_iterator := by kernel_rfl
theorem slot_si_next : Slot "set_iterator" "__next__" "set_iterator.__next__" :=
  .of (owner := "set_iterator") (n := "__next__") (by rw [typeLookup_type, builtinLookup_eq_fast]; kernel_rfl) (by decide +kernel) (by decide +kernel) (by decide +kernel)
    (by first | exact .inl (by decide +kernel) | exact .inr (by decide +kernel)) (by rw [isSubtype_type]; kernel_rfl)
theorem entry_si_next : entryFor table "set_iterator.__next__" = some Builtin.«set_iterator.__next__» := entryFor_of_tree (by kernel_rfl)
theorem args_si_next (a : Value) : argsOk "set_iterator.__next__" ⟨[a], []⟩ := by
  unfold argsOk; rw [signature?_of (id := "set_iterator.__next__") (n := ['_', '_', 't', 'x', 'e', 'n', '_', '_']) (o := ['r', 'o', 't', 'a', 'r', 'e', 't', 'i', '_', 't', 'e', 's']) (by kernel_rfl) owner_si]; kernel_rfl
theorem slot_si_iter : Slot "set_iterator" "__iter__" "set_iterator.__iter__" :=
  .of (owner := "set_iterator") (n := "__iter__") (by rw [typeLookup_type, builtinLookup_eq_fast]; kernel_rfl) (by decide +kernel) (by decide +kernel) (by decide +kernel)
    (by first | exact .inl (by decide +kernel) | exact .inr (by decide +kernel)) (by rw [isSubtype_type]; kernel_rfl)
noncomputable def At (h : Heap) (a : Addr) (es : Array El) (ep : Nat) (t : SetTable) : Prop := ∃ o, h.get? a = some o ∧ o.ExactSet ∧ o.data = .set es ep t
noncomputable def IsIter (h : Heap) (I a : Addr) (sl i n ep : Nat) : Prop := ∃ o, h.get? I = some o ∧ o.cls = .type "set_iterator" ∧ o.data = .fields #[.int sl 0, .int i 0, .ref a, .int n 0, .int ep 0]
noncomputable def wk (w : World) (a : Addr) (ep : Nat) (es : Array El) : Array El := if w.params.followText "set-order" = true then pickOrder (w.params.setOrder a ep) es else es
theorem pick_go {α : Type} (next : Nat → Nat) : ∀ (n k : Nat) (left : List α) (out : Array α), left.length = n → (pickOrder.go next n k left out).toList.Perm (out.toList ++ left)
  | 0, k, left, out, h => by
    rw [List.length_eq_zero_iff.mp h]
    simp [pickOrder.go]
  | n + 1, k, left, out, h => by
    have hi : next k % left.length < left.length := Nat.mod_lt _ (by omega)
    rw [pickOrder.go, List.getElem?_eq_getElem hi]
    simp only
    refine (pick_go next n (k + 1) _ _ (by rw [List.length_eraseIdx, if_pos hi]; omega)).trans ?_
    rw [Array.toList_push, List.append_assoc]
    refine List.Perm.append_left _ ?_
    show (left[next k % left.length] :: left.eraseIdx (next k % left.length)).Perm left
    rw [List.eraseIdx_eq_take_drop_succ]
    refine List.perm_middle.symm.trans (List.Perm.of_eq ?_)
    rw [← List.drop_eq_getElem_cons hi, List.take_append_drop]
theorem wk_perm (w : World) (a : Addr) (ep : Nat) (es : Array El) : (wk w a ep es).toList.Perm es.toList := by
  unfold wk
  split
  · unfold pickOrder
    have := pick_go (w.params.setOrder a ep) es.size 0 es.toList #[] (by simp)
    simpa using this
  · exact List.Perm.refl _
theorem wk_size (w : World) (a : Addr) (ep : Nat) (es : Array El) : (wk w a ep es).size = es.size := by
  rw [← Array.length_toList, (wk_perm w a ep es).length_eq, Array.length_toList]
theorem below_zero {xs : Array Nat} (hR : Rise xs) : below xs 0 = 0 := by
  obtain ⟨h1, h2, h3⟩ := below_spec 0 hR
  refine Classical.byContradiction fun q => ?_
  have := h2 0 (by omega) (by omega)
  omega
theorem below_succ {xs : Array Nat} (hR : Rise xs) {i : Nat} (hi : i < xs.size) : below xs (xs[i] + 1) = i + 1 := by
  obtain ⟨h1, h2, h3⟩ := below_spec (xs[i] + 1) hR
  rcases Nat.lt_trichotomy (below xs (xs[i] + 1)) (i + 1) with q | q | q
  · have a := h3 i hi (by omega)
    omega
  · exact q
  · have a := h2 (i + 1) (by omega) q
    have b := hR i (i + 1) (by omega) (by omega)
    omega
section
variable {prog : Program} {w : World} {A : Around} {E : Value → Shared → Prop} {s : Shared} {a I : Addr} {es : Array El} {ep i sl : Nat} {t : SetTable}
theorem At.typeIs (x : At s.heap a es ep t) : s.TypeIs (.ref a) "set" := let ⟨o, ho, hc, _⟩ := x; ⟨o, ho, hc.1⟩
theorem At.at {h h' : Heap} (x : At h a es ep t) (e : ∀ o, h.get? a = some o → h'.get? a = some o) : At h' a es ep t := let ⟨o, ho, r⟩ := x; ⟨o, e o ho, r⟩
theorem IsIter.at {h h' : Heap} {n : Nat} (x : IsIter h I a sl i n ep) (e : ∀ o, h.get? I = some o → h'.get? I = some o) : IsIter h' I a sl i n ep := let ⟨o, ho, r⟩ := x; ⟨o, e o ho, r⟩
theorem IsIter.typeIs {n : Nat} (x : IsIter s.heap I a sl i n ep) : s.TypeIs (.ref I) "set_iterator" := let ⟨o, ho, hc, _⟩ := x; ⟨o, ho, hc⟩
theorem byText_ok {Q : Bool → Shared → Prop} (h : Q (w.params.followText "set-order") s) : wpAny (model prog w) A setsByText Q E s := by
  unfold setsByText
  exact wpAny_bind (wpAny_askSetting (wpAny_pure h))
theorem si_iter {Q : Value → Shared → Prop} (hm : At s.heap a es ep t) (hf : t.fits es.size = true) (hp : t.plain = true)
    (hQ : Q (.ref s.heap.objs.size) { s with heap := s.heap.push { cls := .type "set_iterator", data := .fields #[.int 0 0, .int 0 0, .ref a, .int es.size 0, .int ep 0] } }) :
    wpAny (model prog w) A (pyIter (.ref a)) Q E s := by
  obtain ⟨o, ho, hc, hd⟩ := id hm
  have hT := hm.typeIs
  refine wpAny_pyIter_slot hT F.slot_set_iter (wpAny_call_entry F.slot_set_iter hT entry_set_iter ?_ (F.args_set_iter_1 _))
  unfold Builtin.«frozenset.__iter__» Builtin.Frozenset.slot0 slotArgs
  simp only [List.isEmpty_nil, Bool.not_true, Bool.false_eq_true, ↓reduceIte, bind_assoc, List.length_nil, bne_self_eq_false]
  unfold Builtin.Frozenset.addrOf Builtin.Frozenset.sizeOf
  refine wpAny_bind (wpAny_pure ?_)
  try dsimp only
  refine wpAny_bind (wpAny_pure ?_)
  refine wpAny_bind (wpAny_bind (wpAny_setEntries_of ho hd hf (wpAny_pure ?_)))
  unfold setDrawn
  refine wpAny_bind (wpAny_bind (wpAny_setState_of ho hd hf ?_))
  dsimp only
  refine wpAny_bind (byText_ok ?_)
  refine wpAny_pure ?_
  rw [if_neg]
  case hnc =>
    show ¬ ((!(w.params.followText "set-order") && (!t.plain && decide (es.size > 1))) = true)
    rw [hp]; simp
  refine wpAny_bind (wpAny_pure ?_)
  refine wpAny_bind (wpAny_setEpoch_of ho hd hf ?_)
  refine wpAny_bind (wpAny_newObj_type (wpAny_pure ⟨_, rfl, "set_iterator", _, ⟨_, Heap.get?_push_size _ rfl, rfl⟩, slot_si_next.lookup, ?_⟩))
  simpa [rawInt] using hQ
theorem next_core {Q : Option (Value × Nat) → Shared → Prop} (hm : At s.heap a es ep t) (hf : t.fits es.size = true) (hp : t.plain = true) (hl : t.led = ledOf w)
    (h1 : w.params.followText "set-order" = true → Q (((pickOrder (w.params.setOrder a ep) es)[i]?).map fun e => (e.2, sl)) s)
    (h2 : w.params.followText "set-order" = false → Q (match es[below t.place sl]?, t.place[below t.place sl]? with | some (_, x), some j => some (x, j + 1) | _, _ => none) s) :
    wpAny (model prog w) A (setNext a sl i ep) Q E s := by
  obtain ⟨o, ho, hc, hd⟩ := id hm
  unfold setNext
  refine wpAny_bind (wpAny_setState_of ho hd hf ?_)
  dsimp only
  refine wpAny_bind (byText_ok ?_)
  cases hb : w.params.followText "set-order" with
  | true =>
    rw [if_pos rfl]
    rw [if_neg (by simp)]
    unfold setWalk
    refine wpAny_bind (wpAny_bind (wpAny_setState_of ho hd hf ?_))
    dsimp only
    refine wpAny_bind (byText_ok ?_)
    rw [hb, if_pos rfl]
    refine wpAny_bind (wpAny_askSetting ?_)
    exact wpAny_pure (wpAny_pure (h1 hb))
  | false =>
    rw [if_neg Bool.false_ne_true]
    rw [if_neg]
    case hnc =>
      show ¬ ((!t.plain && decide (es.size > 1)) = true)
      rw [hp]; simp
    refine wpAny_bind (show wpAny (model prog w) A (if (!t.led && !es.isEmpty) = true then unsupported "set:maker-not-led" else pure ()) _ _ _ from ?_)
    rw [if_neg (by rw [hl]; simp [ledOf, hb])]
    refine wpAny_pure ?_
    exact wpAny_pure (h2 hb)
theorem si_item {Q : Option Value → Shared → Prop} (hit : IsIter s.heap I a sl i es.size ep) (hm : At s.heap a es ep t) (hf : t.fits es.size = true) (hp : t.plain = true) (hl : t.led = ledOf w) (hlt : i < es.size) (hb : w.params.followText "set-order" = false → below t.place sl = i)
    (hps : t.place.size = es.size) (hQ : ∀ h' sl', IsIter h' I a sl' (i + 1) es.size ep → (w.params.followText "set-order" = false → ∃ h : i < t.place.size, sl' = t.place[i] + 1) → Heap.SameBut I s.heap h' → Q (some ((wk w a ep es)[i]'(by rw [wk_size]; exact hlt)).2) { s with heap := h' }) :
    wpAny (model prog w) A (pyNext (.ref I)) Q E s := by
  obtain ⟨o, ho, hc, hd⟩ := id hit
  obtain ⟨oa, hoa, hca, hda⟩ := id hm
  unfold pyNext
  refine wpAny_bind (wpAny_attempt (wpAny_callSpecial?_slot (name := Str.ofString "__next__") hit.typeIs slot_si_next (wpAny_call_entry slot_si_next hit.typeIs entry_si_next ?_ (args_si_next _))))
  unfold Builtin.«set_iterator.__next__» slotArgs
  simp only [List.isEmpty_nil, Bool.not_true, Bool.false_eq_true, ↓reduceIte, bind_assoc, List.length_nil, bne_self_eq_false]
  refine wpAny_bind (wpAny_pure ?_)
  refine wpAny_bind (wpAny_fieldsOf ho hd ?_)
  dsimp only
  refine wpAny_bind (wpAny_setEntries_of hoa hda hf ?_)
  rw [if_neg (by simp)]
  have fin : ∀ sl' : Nat, (w.params.followText "set-order" = false → ∃ h : i < t.place.size, sl' = t.place[i] + 1) → wpAny (model prog w) A.in1 (do
      setField (Value.ref I) 0 (rawInt sl')
      setField (Value.ref I) 1 (rawInt ((i : Int) + 1))
      ret ((wk w a ep es)[i]'(by rw [wk_size]; exact hlt)).2)
      (fun fin s' => ∃ v, fin = Fin.done (Flow.ret v) ∧ wpAny (model prog w) A (pure (some v)) Q E s') (fun e s' => wpAny (model prog w) A (do
        let b ← isInstance e (Value.type "StopIteration")
        if b = true then pure none else throw e) Q E s') s := fun sl' hsl => by
    refine wpAny_bind (wpAny_setField ho hd (by simp) ?_)
    have h1 : (s.heap.update I (Obj.mapFields (·.setIfInBounds 0 (rawInt sl')))).get? I = some (Obj.mapFields (·.setIfInBounds 0 (rawInt sl')) o) := Heap.get?_update_self _ ho (Obj.isFreed_of_fields (Obj.data_mapFields hd _))
    have h2 : (Obj.mapFields (·.setIfInBounds 0 (rawInt sl')) o).data = .fields #[.int sl' 0, .int i 0, .ref a, .int es.size 0, .int ep 0] := by rw [Obj.data_mapFields hd]; simp [rawInt]
    refine wpAny_bind (wpAny_setField h1 h2 (by simp) ?_)
    refine wpAny_pure ⟨_, rfl, wpAny_pure (hQ _ sl' ?_ hsl ((Heap.SameBut.update ..).trans (Heap.SameBut.update ..)))⟩
    exact ⟨_, Heap.get?_update_self _ h1 (Obj.isFreed_of_fields (Obj.data_mapFields h2 _)), (Obj.cls_mapFields ..).trans ((Obj.cls_mapFields ..).trans hc), by rw [Obj.data_mapFields h2]; simp [rawInt]⟩
  simp only [Int.toNat_natCast]
  refine wpAny_bind (next_core hm hf hp hl (fun hb1 => ?_) (fun hb0 => ?_))
  · have e : wk w a ep es = pickOrder (w.params.setOrder a ep) es := by unfold wk; rw [if_pos hb1]
    have hlt2 : i < (pickOrder (w.params.setOrder a ep) es).size := by rw [← e, wk_size]; exact hlt
    have ei : (pickOrder (w.params.setOrder a ep) es)[i]? = some ((wk w a ep es)[i]'(by rw [wk_size]; exact hlt)) := by
      rw [Array.getElem?_eq_getElem hlt2]
      simp only [e]
    rw [ei]
    exact fin sl fun h => by rw [hb1] at h; cases h
  · have e : wk w a ep es = es := by unfold wk; rw [if_neg (by rw [hb0]; exact Bool.false_ne_true)]
    rw [hb hb0, Array.getElem?_eq_getElem hlt, Array.getElem?_eq_getElem (by rw [hps]; exact hlt)]
    have := fin (t.place[i]'(by rw [hps]; exact hlt) + 1) fun _ => ⟨by rw [hps]; exact hlt, rfl⟩
    simp only [e] at this
    exact this
theorem si_end {Q : Option Value → Shared → Prop} (hh : A.handled = none) (hit : IsIter s.heap I a sl es.size es.size ep) (hm : At s.heap a es ep t) (hf : t.fits es.size = true) (hp : t.plain = true) (hl : t.led = ledOf w) (hb : w.params.followText "set-order" = false → below t.place sl = es.size)
    (hQ : ∀ h', Heap.ExtBut I s.heap h' → Q none { s with heap := h' }) : wpAny (model prog w) A (pyNext (.ref I)) Q E s := by
  obtain ⟨o, ho, hc, hd⟩ := id hit
  obtain ⟨oa, hoa, hca, hda⟩ := id hm
  unfold pyNext
  refine wpAny_bind (wpAny_attempt (wpAny_callSpecial?_slot (name := Str.ofString "__next__") hit.typeIs slot_si_next (wpAny_call_entry slot_si_next hit.typeIs entry_si_next ?_ (args_si_next _))))
  unfold Builtin.«set_iterator.__next__» slotArgs
  simp only [List.isEmpty_nil, Bool.not_true, Bool.false_eq_true, ↓reduceIte, bind_assoc, List.length_nil, bne_self_eq_false]
  refine wpAny_bind (wpAny_pure ?_)
  refine wpAny_bind (wpAny_fieldsOf ho hd ?_)
  dsimp only
  refine wpAny_bind (wpAny_setEntries_of hoa hda hf ?_)
  rw [if_neg (by simp)]
  have fin : wpAny (model prog w) A.in1 (do
      setField (Value.ref I) 2 Value.none
      let x ← newExc (Value.type "StopIteration") []
      raiseNew x) (fun fin s' => ∃ v, fin = Fin.done (Flow.ret v) ∧ wpAny (model prog w) A (pure (some v)) Q E s') (fun e s' => wpAny (model prog w) A (do
        let b ← isInstance e (Value.type "StopIteration")
        if b = true then pure none else throw e) Q E s') s := by
    refine wpAny_bind (wpAny_setField ho hd (by simp) ?_)
    show wpAny (model prog w) _ (newExc (.type "StopIteration") [] >>= _) _ _ _
    refine wpAny_bind ?_
    simp only [newExc, newTuple]
    refine wpAny_bind (wpAny_newObj_type ?_ (by size_fits))
    refine wpAny_bind (m := firstArgMember _ _) (wpAny_of_eq (a := Value.none) (by first | rfl | (simp only [firstArgMember]; rfl)) ?_)
    refine wpAny_newObj_type ?_ (by size_fits)
    simp only [raiseNew]
    refine wpAny_bind (wpAny_handled ?_)
    rw [show A.in1.handled = none from hh]
    refine wpAny_bind (wpAny_pure (wpAny_throw ?_))
    refine wpAny_bind (wpAny_isInstance (T := "StopIteration") (b := true) ⟨_, Heap.get?_push_size _ rfl, rfl⟩ isSubtype_stop ?_)
    exact wpAny_pure (hQ _ (((Heap.SameBut.update ..).extBut.push _).push _))
  simp only [Int.toNat_natCast]
  refine wpAny_bind (next_core hm hf hp hl (fun hb1 => ?_) (fun hb0 => ?_))
  · have e : wk w a ep es = pickOrder (w.params.setOrder a ep) es := by unfold wk; rw [if_pos hb1]
    have hsz : (pickOrder (w.params.setOrder a ep) es).size = es.size := by rw [← e, wk_size]
    rw [Array.getElem?_eq_none (by rw [hsz]; exact Nat.le_refl _)]
    exact fin
  · rw [hb hb0, Array.getElem?_eq_none (Nat.le_refl _)]
    exact fin
end
end Tab

namespace Tab
open PySem PySem.SetTable PyProof.Rows
theorem entry_si_iter : entryFor table "set_iterator.__iter__" = some Builtin.«dict_keyiterator.__iter__» :=
  entryFor_alias (id' := "dict_keyiterator.__iter__") (by kernel_rfl) rfl (by decide +kernel) (by kernel_rfl)
theorem args_si_iter (a : Value) : argsOk "set_iterator.__iter__" ⟨[a], []⟩ := by
  unfold argsOk; rw [signature?_of (id := "set_iterator.__iter__") (n := ['_', '_', 'r', 'e', 't', 'i', '_', '_']) (o := ['r', 'o', 't', 'a', 'r', 'e', 't', 'i', '_', 't', 'e', 's']) (by kernel_rfl) owner_si]; kernel_rfl
section
variable {prog : Program} {w : World} {A : Around} {E : Value → Shared → Prop} {s : Shared}
theorem set_hint {r : Addr} {Q : Bool → Shared → Prop} (hT : s.TypeIs (.ref r) "set") (h : Q false s) : wpAny (model prog w) A (Builtin.List.listLengthHint (.ref r)) Q E s := by
  unfold Builtin.List.listLengthHint
  refine wpAny_bind (wpAny_specialOf hT PySem.F.slot_set_len.lookup ?_)
  generalize hid : ("set.__len__" : String) = id0
  wp_delta
  rw [show splitId id0 = some ("set", "__len__") from by subst hid; decide +kernel]
  subst hid
  refine wpAny_bind (wpAny_isInstance (T := "set") (b := true) hT (by rw [isSubtype_type]; kernel_rfl) ?_)
  refine wpAny_ite_split (fun hab => absurd hab (by decide)) (fun _ => ?_)
  refine wpAny_ite_split (fun _ => ?_) (fun hab => absurd (by decide +kernel) hab)
  refine wpAny_bind (wpAny_typeOf hT ?_)
  exact wpAny_pure h
theorem set_walks (hh : A.handled = none) (I a : Addr) (hne : a ≠ I) (es : Array El) (ep : Nat) (t : SetTable) (hf : t.fits es.size = true) (hp : t.plain = true) (hl : t.led = ledOf w) (hR : Rise t.place) (hps : t.place.size = es.size) :
    Walks prog w A I [I, a] [I] es.size (fun i v => ∃ e, (wk w a ep es)[i]? = some e ∧ v = e.2) (fun i h => ∃ sl, IsIter h I a sl i es.size ep ∧ At h a es ep t ∧ (w.params.followText "set-order" = false → below t.place sl = i)) where
  sub := fun b hb => by simp at hb; simp [hb]
  frame := fun _ _ _ ⟨sl, h1, h2, h3⟩ hk => ⟨sl, h1.at fun o e => hk I (by simp) o e, h2.at fun o e => hk a (by simp) o e, h3⟩
  item := fun i s Q E hi ⟨sl, h1, h2, h3⟩ hQ => by
    refine si_item h1 h2 hf hp hl hi h3 hps fun h' sl' hit hsl hs' => ?_
    refine hQ _ h' s.toks ⟨_, Array.getElem?_eq_getElem (by rw [wk_size]; exact hi), rfl⟩ ⟨sl', hit, h2.at fun o e => (hs'.2 a hne).trans e, fun hb0 => ?_⟩ fun b o hb e => hs'.extBut b o (fun h => hb (by simp [h])) e
    obtain ⟨h, rfl⟩ := hsl hb0
    exact below_succ hR h
  done := fun s Q E ⟨sl, h1, h2, h3⟩ hQ => si_end hh h1 h2 hf hp hl h3 fun h' he' => hQ h' s.toks fun b o hb e => he' b o (fun h => hb (by simp [h])) e
  self := fun _ s Q E ⟨sl, h1, _, _⟩ hQ => by
    refine wpAny_pyIter_slot h1.typeIs slot_si_iter (wpAny_call_entry slot_si_iter h1.typeIs entry_si_iter ?_ (args_si_iter _))
    show wpAny _ _ (ret (.ref I)) _ _ s
    exact wpAny_pure ⟨_, rfl, "set_iterator", _, h1.typeIs, slot_si_next.lookup, hQ⟩
theorem set_src {a : Addr} {es : Array El} {ep : Nat} {t : SetTable} (hf : t.fits es.size = true) (hp : t.plain = true) (hl : t.led = ledOf w) (hR : Rise t.place) (hps : t.place.size = es.size) :
    PySem.W.KdlSrc prog w "set" a a es.size (fun i v => ∃ e, (wk w a ep es)[i]? = some e ∧ v = e.2) (fun h => At h a es ep t) where
  type := fun _ hm => hm.typeIs
  there := fun _ hm => let ⟨_, ho, _⟩ := hm; ⟨Heap.lt_size ho, Heap.lt_size ho⟩
  keep := fun _ _ hm hk => hm.at fun o e => hk a (.inl rfl) o e
  notList := by decide
  notTuple := by decide
  hint := fun _ _ _ _ hm hq => set_hint hm.typeIs hq
  iter := fun _ _ hh hm => ⟨_, _, (fun _ _ hq => si_iter hm hf hp hq), set_walks hh _ a (let ⟨_, ho, _⟩ := hm; Nat.ne_of_lt (Heap.lt_size ho)) es ep t hf hp hl hR hps, ⟨0, ⟨_, Heap.get?_push_size _ rfl, rfl, rfl⟩, hm.at fun o e => Heap.get?_push_of_some _ e, fun _ => below_zero hR⟩⟩
open Tim in
theorem sorted_src {T : String} {r d : Addr} {n : Nat} {P : Nat → Value → Prop} {OK : Heap → Prop} {kd : SortKind} {Ok : Keyed → Prop} {R : Keyed → Keyed → Bool} {Hs : Shared → Prop} {vs : List Value} {Q : Value → Shared → Prop}
    (K : PySem.W.KdlSrc prog w T r d n P OK) (hh : A.handled = none) (hok : OK s.heap) (hn : n ≤ sizeLine) (hP : ∀ acc : Array Value, ItemsOf P acc n → acc.toList = vs) (hz : vs.length ≤ sizeLine)
    (hH : ∀ s' : Shared, (∀ b o, s.heap.get? b = some o → s'.heap.get? b = some o) → Hs s') (hO : OrdAll prog w Hs kd Ok R) (hOk : 2 ≤ vs.length → ∀ v ∈ vs, Ok (v, v))
    (hK : 2 ≤ vs.length → ∀ (A : Around) (E : Value → Shared → Prop) (s' : Shared) (Q : SortKind → Shared → Prop), Hs s' → Q kd s' → wpAny (model prog w) A (keyKind' vs.toArray) Q E s')
    (h : ∀ (out : List Value) (h1 h' : Heap) (e tk : Nat), out.Perm vs → out.Pairwise (fun u v => le R (u, u) (v, v)) → (∀ b o, s.heap.get? b = some o → h1.get? b = some o) → (∀ b o, h1.get? b = some o → h'.get? b = some o) →
      h'.get? h1.objs.size = some { cls := .type "list", data := .seq out.toArray e } → Q (.ref h1.objs.size) { s with heap := h', toks := tk }) :
    wpAny (model prog w) A (call (.builtin "sorted") [.ref r]) Q E s := by
  refine Calls.call_function_entry kind_sorted plain_sorted entry_sorted (args_sorted1 _) ?_
  unfold Builtin.«sorted»
  refine wpAny_bind (m := checkCount "sorted" 1 1 _) (wpAny_pure ?_)
  refine wpAny_bind (PySem.W.kdu_collect (A := A.in1) K hh hok hn fun h1 tk acc k1 hacc => ?_)
  rw [hP acc hacc]
  refine wpAny_bind (wpAny_newList ?_ (by simpa using hz))
  have hoL : (h1.push (seqObj "list" vs.toArray 0)).get? h1.objs.size = some (seqObj "list" vs.toArray 0) := Heap.get?_push_size _ rfl
  have hne : ∀ {b : Addr} {o : Obj}, h1.get? b = some o → b ≠ h1.objs.size := fun e => Nat.ne_of_lt (Heap.lt_size e)
  refine wpAny_bind (wpAny_holding (wpAny_call_entry slot_list_sort ⟨_, hoL, rfl⟩ entry_list_sort (list_sort_any (Hs := Hs) hoL hz (fun s' k => hH s' fun b o e => k b o (hne (k1 b o e)) (Heap.get?_push_of_some _ (k1 b o e))) hO hOk hK fun out q1 q2 => ⟨_, rfl, ?_⟩) (args_list_sort _)))
  refine wpAny_pure ⟨_, rfl, ?_⟩
  obtain ⟨e, he⟩ := sortedHeap_at (out := out.toArray) hoL
  exact h out h1 _ e tk q1 q2 k1 (fun b o eb => by
    rw [sortedHeap_old (hne eb) (by rw [Heap.size_push]; exact Nat.lt_succ_of_lt (Heap.lt_size eb))]
    exact Heap.get?_push_of_some _ eb) he
end
end Tab

namespace Tab
open PySem PyProof.Rows
theorem items_of {prog : Program} {w : World} : ∀ {its : List Value} {ns : List Int}, IntsAre its ns → ItemsAre (IK prog w) ns its
  | _, _, .nil => .nil
  | _, _, .cons n t hr => .cons (intKind_is prog w n t) (items_of hr)
end Tab
namespace L2
open PySem PySem.Spec PyProof.Rows
section
variable {X : Cx}
end
end L2

namespace Tab
open PySem PySem.SetTable PyProof.Rows
section
variable {prog : Program} {w : World} {A : Around} {E : Value → Shared → Prop} {s : Shared}
noncomputable abbrev Kn := Int × Value
noncomputable def encI (prog : Program) (w : World) (y : Kn) : El := ((IK prog w).hash y.1, y.2)
noncomputable def SetI (prog : Program) (w : World) (h : Heap) (a : Addr) (led : Bool) (ys : List Kn) : Prop :=
  ∃ o es ep t L, h.get? a = some o ∧ o.ExactSet ∧ o.data = .set es ep t ∧ es.toList = L.map (·.2) ∧ TOk t L ∧ t.led = led ∧ t.plain = true ∧ L.length * 5 < t.mask * 3 ∧ L.map (·.2) = ys.map (encI prog w) ∧ (∀ y ∈ ys, (IK prog w).is y.1 y.2 = true) ∧ (ys.map (·.1)).Nodup
theorem free_ok {t : SetTable} {L : List (Nat × El)} (T : TOk t L) {h : Int} {e : Nat} (heb : e < 10 * turns t.mask) (he : (sq t.mask h e).j ∉ L.map (·.1)) (hb : ∀ m, m < e → (sq t.mask h m).j ∈ L.map (·.1)) : t.freeSlot h = some ((sq t.mask h e).j, false) := by
  obtain ⟨m, _, _, _, g4⟩ := T.probe_go he hb (fun _ => h + 1) (10 * turns t.mask) 0 (Nat.zero_le _) (by omega)
  unfold SetTable.freeSlot
  rw [start_eq]
  have e1 : t.probe (fun _ => h + 1) h (sq t.mask h 0) = SetTable.probe.go t (fun _ => h + 1) h (10 * turns t.mask) (sq t.mask h 0) := rfl
  rw [e1]
  rcases g4 with ⟨_, g4⟩ | ⟨_, i, hi, _, g7, _⟩
  · rw [g4]; rfl
  · (clear heb; omega)
theorem add_okI {a : Addr} {x : Value} {k : Int} {led : Bool} {ys : List Kn} {Q : Bool → Shared → Prop} (hk : (IK prog w).is k x = true) (hS : SetI prog w s.heap a led ys) (hroom : ys.length + 1 ≤ 300)
    (h : ∀ h' ys', Heap.SameBut a s.heap h' → SetI prog w h' a led ys' → ((k ∈ ys.map (·.1) ∧ ys' = ys) ∨ (k ∉ ys.map (·.1) ∧ ys'.Perm ((k, x) :: ys))) → ∀ r, Q r { s with heap := h' }) :
    wpAny (model prog w) A (setAddHashed a x ((IK prog w).hash k)) Q E s := by
  obtain ⟨o, es, ep, t, L, ho, hex, hd, hes, T, hl, hp, hfill, hy, hys, hnd⟩ := id hS
  have hf := T.fits hes
  have hly : L.length = ys.length := by have := congrArg List.length hy; simpa using this
  have hesz : es.size = L.length := by rw [← Array.length_toList, hes, List.length_map]
  obtain ⟨e, heb, he, hb⟩ := T.first ((IK prog w).hash k)
  have hmk : t.mask ≤ 511 ∧ 7 ≤ t.mask := by rcases T.msk with q | q | q | q <;> rw [q] <;> decide
  obtain ⟨tk, rfl⟩ := Value.isInt_shape hk
  have hel : ElemsOf (IK prog w) es.toList := fun z hz => by
    rw [hes, hy] at hz
    obtain ⟨y, hyy, rfl⟩ := List.mem_map.mp hz
    refine ⟨⟨y.1, hys y hyy, rfl⟩, ?_⟩
    obtain ⟨t2, e2⟩ := Value.isInt_shape (hys y hyy)
    show y.2.scannable = true
    rw [e2]; rfl
  have hsc : byScan (.int k tk) es = true := by
    unfold byScan
    rw [Bool.and_eq_true, Bool.and_eq_true]
    refine ⟨⟨rfl, decide_eq_true (by rw [hesz]; unfold scanBound; (clear hmk heb hesz hfill; omega))⟩, ?_⟩
    rw [← Array.all_toList, List.all_eq_true]
    exact fun z hz => (hel z hz).2
  unfold setAddHashed setAddHashedIn
  refine wpAny_holding (wpAny_bind (wpAny_setState_of ho hd hf ?_))
  dsimp only
  rw [if_pos hsc]
  refine wpAny_bind ?_
  unfold setAddByScan
  refine wpAny_bind (wpAny_rule ?_)
  refine wpAny_bind (wpAny_setScan_of hk ho hd hf hel ?_)
  cases hfi : es.toList.findIdx? (fun e => (IK prog w).is k e.2) with
  | some j =>
    dsimp only
    have hin : k ∈ ys.map (·.1) := by
      obtain ⟨hj, hj2, _⟩ := List.findIdx?_eq_some_iff_getElem.mp hfi
      have hm : es.toList[j] ∈ es.toList := List.getElem_mem hj
      generalize es.toList[j] = z at hj2 hm
      rw [hes, hy] at hm
      obtain ⟨y, hyy, rfl⟩ := List.mem_map.mp hm
      have := (IK prog w).inj _ _ _ hj2 (hys y hyy)
      exact List.mem_map.mpr ⟨y, hyy, this.symm⟩
    have e : s = { s with heap := s.heap } := by cases s; rfl
    refine wpAny_pure (wpAny_pure ?_)
    rw [e]
    exact h s.heap ys (Heap.SameBut.refl a s.heap) hS (.inl ⟨hin, rfl⟩) _
  | none =>
    dsimp only
    have hout : k ∉ ys.map (·.1) := fun hc => by
      obtain ⟨y, hyy, rfl⟩ := List.mem_map.mp hc
      have hm : encI prog w y ∈ es.toList := by rw [hes, hy]; exact List.mem_map.mpr ⟨y, hyy, rfl⟩
      have := List.findIdx?_eq_none_iff.mp hfi _ hm
      have h2 := hys y hyy
      rw [show (encI prog w y).2 = y.2 from rfl, h2] at this
      cases this
    obtain ⟨L', T', hpm, hins⟩ := T.put (x := .int k tk) he hb (by (clear hmk heb hesz hly hroom; omega))
    have hins := hins es hes
    have hL' : L'.length = L.length + 1 := by rw [hpm.length_eq, List.length_cons]
    have hf1 := T'.fits hins
    generalize hput : t.put (sq t.mask ((IK prog w).hash k) e).j = tp at T' hins hf1
    obtain ⟨t1, p1⟩ := tp
    dsimp only at T' hins hf1 ⊢
    have hlay : layNew t es ((IK prog w).hash k) (.int k tk) = (insertAt es p1 ((IK prog w).hash k, .int k tk), t1, false, false) := by
      unfold layNew
      rw [free_ok T heb he hb]
      dsimp only
      rw [hput]
      dsimp only
      unfold SetTable.orStandIn
      rw [hf1]
      rfl
    rw [hlay]
    dsimp only
    have ht1 : t1.plain = true ∧ t1.led = led ∧ t1.mask = t.mask := by
      have : t1 = (t.put (sq t.mask ((IK prog w).hash k) e).j).1 := by rw [hput]
      rw [this]
      exact ⟨hp, hl, rfl⟩
    refine wpAny_bind ?_
    wp_delta
    refine wpAny_pure ?_
    rw [if_pos ht1.1]
    have eh : hashByValue 8 (.int k tk) = pure true := by simp [hashByValue]
    rw [eh]
    refine wpAny_bind (wpAny_pure ?_)
    simp only [if_true]
    have hp2 : (L'.map (·.2)).Perm (((k, Value.int k tk) :: ys).map (encI prog w)) := by
      have := hpm.map (·.2)
      rw [List.map_cons, hy] at this
      exact this
    obtain ⟨ys1, hy1, hpy1⟩ := Tim.perm_map_inv hp2
    have hnd1 : (ys1.map (·.1)).Nodup := by
      rw [(hpy1.map (·.1)).nodup_iff, List.map_cons, List.nodup_cons]
      exact ⟨hout, hnd⟩
    have hkeys1 : ∀ y ∈ ys1, (IK prog w).is y.1 y.2 = true := fun y hyy => by
      rcases List.mem_cons.mp (hpy1.mem_iff.mp hyy) with rfl | hyy
      · exact hk
      · exact hys y hyy
    have hsz1 : (insertAt es p1 ((IK prog w).hash k, Value.int k tk)).size = L'.length := by rw [← Array.length_toList, hins, List.length_map]
    refine wpAny_bind (wpAny_storeSet_of ho hd ?_ (by rw [hsz1, sizeLine_eq]; (clear hsz1 ht1 hmk heb hesz hfill; omega)))
    have hg1 := put_get ho hd (insertAt es p1 ((IK prog w).hash k, Value.int k tk)) t1
    have sb1 := Heap.SameBut.update s.heap a (Obj.putSet (insertAt es p1 ((IK prog w).hash k, Value.int k tk)) t1)
    have hfl : t1.fill = L'.length := by
      unfold SetTable.fill
      rw [T'.dm, T'.size]; rfl
    by_cases c : (!false && t1.tooFull) = true
    · rw [if_pos c]
      have c2 : t1.fill * 5 ≥ t1.mask * 3 := by
        have : t1.tooFull = true := by simpa using c
        unfold SetTable.tooFull at this
        simpa using this
      rw [hfl] at c2
      obtain ⟨k1, k2, k3, k4⟩ := grow_at T'.msk c2 (by rw [hL', ht1.2.2]; show (L.length + 1 - 1) * 5 < _; (clear c2 hfl hsz1 ht1 hL' hmk heb hesz hly hroom; omega)) (by (clear c2 hfl hsz1 ht1 hmk heb hesz hfill; omega))
      rw [← hsz1] at k1 k2 k3 k4
      generalize hes1 : insertAt es p1 ((IK prog w).hash k, Value.int k tk) = es1 at *
      obtain ⟨t2, order, L2, r1, r2, r3, r4, r5, r6, r7, r8⟩ := relaid_ok (t := t1) (es := es1) (wanted := grown es1.size) k1 k2
      have hrel : relayAll t1 es1 (grown es1.size) = (order.filterMap (es1[·]?), t2, false) := by
        unfold relayAll
        rw [r1]
        have hc1 : coversAll order es1.size = true := by
          unfold coversAll
          exact List.isPerm_iff.mpr r8
        have hc2 := r3.fits r2
        dsimp only
        rw [hc1, hc2]
        rfl
      rw [hrel]
      dsimp only
      have hsz2 : (order.filterMap (es1[·]?)).size = es1.size := by
        rw [← Array.length_toList, r2, r4.length_eq, Array.length_toList]
      refine wpAny_bind ?_
      wp_delta
      refine wpAny_pure ?_
      refine wpAny_bind (wpAny_storeSet_of hg1 rfl ?_ (by rw [hsz2, hsz1, sizeLine_eq]; (clear hsz2 r7 k4 k3 k2 hsz1 c2 hfl ht1 hmk heb hesz hfill; omega)))
      have hg2 := put_get hg1 rfl (order.filterMap (es1[·]?)) t2
      have sb2 := sb1.trans (Heap.SameBut.update _ a (Obj.putSet (order.filterMap (es1[·]?)) t2))
      rw [hins, hy1] at r4
      obtain ⟨ys2, hy2, hpy2⟩ := Tim.perm_map_inv r4
      have hL2 : L2.length = L'.length := by
        have h1 := congrArg List.length hy2
        have h2 := congrArg List.length hy1
        rw [List.length_map, List.length_map] at h1 h2
        rw [h1, hpy2.length_eq, ← h2]
      refine wpAny_pure (wpAny_pure (h _ ys2 sb2 ⟨_, _, _, t2, L2, hg2, hex, rfl, r2, r3, r5.trans ht1.2.1, r6.trans ht1.1, ?_, hy2, fun y hyy => hkeys1 y (hpy2.mem_iff.mp hyy), ?_⟩ (.inr ⟨hout, hpy2.trans hpy1⟩) _))
      · rw [hL2, r7, ← hsz1]; exact k3
      · rw [(hpy2.map (·.1)).nodup_iff]; exact hnd1
    · rw [if_neg c]
      have c2 : L'.length * 5 < t1.mask * 3 := by
        rw [← hfl]
        refine Nat.lt_of_not_le fun z => c ?_
        show t1.tooFull = true
        unfold SetTable.tooFull
        exact decide_eq_true z
      exact wpAny_pure (wpAny_pure (h _ ys1 sb1 ⟨_, _, _, t1, L', hg1, hex, rfl, hins, T', ht1.2.1, ht1.1, c2, hy1, hkeys1, hnd1⟩ (.inr ⟨hout, hpy1⟩) _))
end
end Tab

namespace Tab
open PySem PySem.SetTable PyProof.Rows
section
variable {prog : Program} {w : World} {A : Around} {E : Value → Shared → Prop} {s : Shared}
noncomputable def MetI (xs ys : List Kn) (i : Nat) : Prop := (∀ k, k ∈ ys.map (·.1) ↔ k ∈ (xs.take i).map (·.1)) ∧ ∀ y ∈ ys, y ∈ xs
theorem SetI.at {h h' : Heap} {a : Addr} {led : Bool} {ys : List Kn} (x : SetI prog w h a led ys) (e : ∀ o, h.get? a = some o → h'.get? a = some o) : SetI prog w h' a led ys := by
  obtain ⟨o, es, ep, t, L, ho, h1, h2, h3, h4, h5, h6, h7, h8, h9, h10⟩ := x
  exact ⟨o, es, ep, t, L, e o ho, h1, h2, h3, h4, h5, h6, h7, h8, h9, h10⟩
theorem SetI.nd {h : Heap} {a : Addr} {led : Bool} {ys : List Kn} (x : SetI prog w h a led ys) : (ys.map (·.1)).Nodup := by
  obtain ⟨o, es, ep, t, L, ho, h1, h2, h3, h4, h5, h6, h7, h8, h9, h10⟩ := x
  exact h10
theorem loop_okI {R : Result → Shared → Prop} {I S : Addr} {fp wr : List Addr} {G : Array GenState → Array GenState → Prop} {xs : List Kn} {St : Nat → Shared → Prop} {led : Bool}
    (W : WalksS prog w A.in1 I fp wr G xs.length (fun i v => ∃ y, xs[i]? = some y ∧ v = y.2) St) (hSf : S ∉ fp) (hk : ∀ y ∈ xs, (IK prog w).is y.1 y.2 = true)
    (hD : ∀ l : List Kn, (l.map (·.1)).Nodup → (∀ y ∈ l, y ∈ xs) → l.length ≤ 299) :
    ∀ (n i : Nat) (s : Shared) (ys : List Kn), xs.length - i = n → i ≤ xs.length → St i s → SetI prog w s.heap S led ys → MetI xs ys i →
      (∀ s' ys', Moved (S :: wr) G s s' → SetI prog w s'.heap S led ys' → MetI xs ys' xs.length → R (.ok (.ret .none)) s') →
      codeAny (model prog w) A (.builtin "set.update.loop" ⟨[.ref S, .ref I], []⟩) R s := by
  have hSw : S ∉ wr := fun h => hSf (W.sub _ h)
  have hsub : ∀ b ∈ wr, b ∈ S :: wr := fun b hb => List.mem_cons_of_mem _ hb
  have keep : ∀ {s s' : Shared} {ys : List Kn}, Moved wr G s s' → SetI prog w s.heap S led ys → SetI prog w s'.heap S led ys := fun hm hS => hS.at fun o e => hm.heap S o hSw e
  intro n
  induction n with
  | zero =>
    intro i s ys hn hi hst hS hM hR
    have e : i = xs.length := by omega
    subst e
    refine codeAny_builtin F.entry_set_update_loop ?_
    rw [Around.under_plainId F.plain_set_update_loop _]
    show wpAny (model prog w) A.in1 (pyNext (.ref I) >>= _) _ _ s
    refine wpAny_bind (W.done s _ _ hst fun s' hm => ?_)
    show wpAny (model prog w) A.in1 (ret Value.none) _ _ s'
    exact wpAny_pure (hR s' ys (hm.mono hsub) (keep hm hS) hM)
  | succ n ih =>
    intro i s ys hn hi hst hS hM hR
    have hlt : i < xs.length := by (clear hi; omega)
    refine codeAny_builtin F.entry_set_update_loop ?_
    rw [Around.under_plainId F.plain_set_update_loop _]
    show wpAny (model prog w) A.in1 (pyNext (.ref I) >>= _) _ _ s
    refine wpAny_bind (W.item i s _ _ hlt hst fun v s' hP hst' hm => ?_)
    obtain ⟨y, hy, rfl⟩ := hP
    have hyx : y ∈ xs := List.mem_of_getElem? hy
    have hS' := keep hm hS
    show wpAny (model prog w) A.in1 (holding [y.2] (setAdd S y.2) >>= _) _ _ s'
    refine wpAny_bind (wpAny_holding ?_)
    unfold setAdd
    refine wpAny_holding ?_
    refine wpAny_bind ((IK prog w).pyHash (hk y hyx) ?_)
    refine add_okI (s := { s' with toks := s'.toks + 1 }) (hk y hyx) hS' (by have := hD ys hS.nd hM.2; (clear hlt hi hn; omega)) fun h' ys' hsb hS2 hcase r => ?_
    have hM' : MetI xs ys' (i + 1) := by
      have et : xs.take (i + 1) = xs.take i ++ [y] := by rw [List.take_add_one, hy]; rfl
      rcases hcase with ⟨c1, rfl⟩ | ⟨c1, c2⟩
      · refine ⟨fun k => ?_, hM.2⟩
        rw [hM.1 k, et, List.map_append, List.mem_append]
        refine ⟨.inl, fun h => h.elim id fun h => ?_⟩
        have : k = y.1 := by simpa using h
        subst this
        exact (hM.1 _).mp c1
      · refine ⟨fun k => ?_, fun z hz => ?_⟩
        · rw [(c2.map (·.1)).mem_iff, List.map_cons, List.mem_cons, hM.1 k, et, List.map_append, List.mem_append]
          exact ⟨fun h => h.elim (fun e => .inr (by simp [e])) .inl, fun h => h.elim .inr fun e => .inl (by simpa using e)⟩
        · rcases List.mem_cons.mp (c2.mem_iff.mp hz) with rfl | hz
          · exact hyx
          · exact hM.2 z hz
    refine wpAny_pure ⟨plainId_quiet F.plain_set_update_loop _, ih (i + 1) _ ys' (by (clear hlt hi; omega)) hlt (W.frame _ s' _ _ hst' (Nat.le_add_right _ _) fun b hb o e => ?_) hS2 hM' fun s'' ys'' hm'' hS'' hM'' => ?_⟩
    · rw [hsb.2 b (fun h : b = S => hSf (by rw [← h]; exact hb))]; exact e
    · refine hR s'' ys'' (Moved.trans W.gtrans ((hm.mono hsub).then_heap (Nat.le_add_right _ _) fun b o hb e => ?_) hm'') hS'' hM''
      rw [hsb.2 b (fun h : b = S => hb (by rw [h]; exact List.mem_cons_self))]; exact e
end
end Tab

namespace Tab
open PySem PySem.SetTable PyProof.Rows
section
variable {prog : Program} {w : World} {A : Around} {E : Value → Shared → Prop} {s : Shared}
theorem fresh_setI {h : Heap} {a : Addr} (hg : h.get? a = some (newO w)) : SetI prog w h a (ledOf w) [] :=
  ⟨_, #[], 0, _, [], hg, ⟨rfl, rfl, rfl⟩, rfl, rfl, fresh_ok _, rfl, rfl, (by show 0 * 5 < 7 * 3; decide), rfl, (fun _ h => (nomatch h)), List.Pairwise.nil⟩
set_option maxHeartbeats 3200000 in
theorem call_setI {l : Addr} {its : Array Value} {xs : List Kn} {Q : Value → Shared → Prop} (hh : A.handled = none) (hl : s.heap.IsList l its) (hi : its.toList = xs.map fun y => y.2)
    (hk : ∀ y ∈ xs, (IK prog w).is y.1 y.2 = true) (hD : ∀ l : List Kn, (l.map (·.1)).Nodup → (∀ y ∈ l, y ∈ xs) → l.length ≤ 299)
    (h : ∀ (h2 : Heap) (tk : Nat) (ys : List Kn), SetI prog w h2 s.heap.objs.size (ledOf w) ys → MetI xs ys xs.length → s.heap.objs.size < h2.objs.size →
      (∀ b o, b < s.heap.objs.size → s.heap.get? b = some o → h2.get? b = some o) → Q (.ref s.heap.objs.size) { s with heap := h2, toks := tk }) :
    wpAny (model prog w) A (call (.type "set") [.ref l]) Q E s := by
  obtain ⟨c, tl, h0⟩ := F.called_set.mro
  have h3 := F.called_set.made
  have h4 := F.called_set.sub
  refine wpAny_call (codeAny_of_tree ?_)
  show wpAny (model prog w) _ (callAny (.type "set") _) _ _ _
  refine wpAny_pure ⟨Code.quiet_builtin _ (by decide +kernel), codeAny_builtin F.entry_type_call ?_⟩
  rw [Around.under_plain (weight_type_call_type "set" [.ref l] []) rfl]
  have h1 := F.called_set.notType
  have h2 := F.called_set.canCreate
  have h5 := F.typeCall_set_1 (.ref l)
  repeat (any_goals (first | assumption | wp_step))
  refine codeAny_mono (new1 (.ref l) (E := E) (Q := fun v s1 => v = .ref s.heap.objs.size ∧ s1 = { s with heap := s.heap.push (newO w) }) ⟨rfl, rfl⟩) fun r s1 hr => ?_
  match r, hr with
  | .error e, hr => exact hr
  | .ok .next, hr => exact hr.elim
  | .ok .brk, hr => exact hr.elim
  | .ok .cont, hr => exact hr.elim
  | .ok (.ret v), hr =>
    obtain ⟨rfl, rfl⟩ := hr
    have k1 : (s.heap.push (newO w)).get? s.heap.objs.size = some (newO w) := Heap.get?_push_size _ rfl
    have k2 : Shared.TypeIs { s with heap := s.heap.push (newO w) } (.ref s.heap.objs.size) "set" := ⟨_, k1, rfl⟩
    have k3 := F.called_set.init.lookup
    have k4 := F.called_set.init.bind (.ref s.heap.objs.size)
    repeat (any_goals (first | assumption | wp_step))
    refine codeAny_mono (codeAny_call_builtin (R := wants (fun r s2 => r = .none ∧ ∃ h2 tk ys, s2 = { s with heap := h2, toks := tk } ∧ SetI prog w h2 s.heap.objs.size (ledOf w) ys ∧ MetI xs ys xs.length ∧ s.heap.objs.size < h2.objs.size ∧
        (∀ b o, b < s.heap.objs.size → s.heap.get? b = some o → h2.get? b = some o)) E) F.called_set.init.plain F.entry_set_init (check_set_init_1 k2 ?_)) fun r2 s2 hr2 => ?_
    · obtain ⟨⟨oc, od, oda, os⟩, hol, hcl, nl, hdl⟩ := hl
      simp only at hcl hdl
      subst hcl hdl
      have k5 : (s.heap.push (newO w)).get? l = some { cls := .type "list", dict := od, data := .seq its nl, slots := os } := Heap.get?_push_of_some _ hol
      have k6 := F.sub_list_set
      have k7 := F.sub_list_frozenset
      have k8 : (Value.type "list" == Value.type "dict") = false := by decide
      have k9 : (s.heap.push (newO w)).IsList l its := ⟨_, k5, rfl, nl, rfl⟩
      unfold Builtin.«set.__init__» noKeywords Builtin.Frozenset.updateFrom
      generalize hPI : pyIter = PI
      wp_walk
      subst hPI
      refine wpAny_pyIter_list k9 ?_
      refine wpAny_bind (wpAny_runValue ?_)
      have j1 : l < s.heap.objs.size := Heap.lt_size hol
      have j2 : A.in1.in1.in1.handled = none := by simp [hh]
      have j3 : l ≠ (s.heap.push (newO w)).objs.size := by
        rw [Heap.size_push]; exact Nat.ne_of_lt (Nat.lt_succ_of_lt j1)
      have j4 : s.heap.objs.size ∉ [(s.heap.push (newO w)).objs.size, l] := by
        rw [Heap.size_push]; simp only [List.mem_cons, List.mem_singleton, List.not_mem_nil, or_false, not_or]
        exact ⟨Nat.ne_of_lt (Nat.lt_succ_self _), Nat.ne_of_gt j1⟩
      have j6 : its.size = xs.length := by rw [← Array.length_toList, hi, List.length_map]
      have W := (Walks.list (prog := prog) (w := w) j2 (s.heap.push (newO w)).objs.size l j3 its).toS
      have W2 : WalksS prog w A.in1.in1.in1 (s.heap.push (newO w)).objs.size [(s.heap.push (newO w)).objs.size, l] [(s.heap.push (newO w)).objs.size] (fun a b => b = a) xs.length (fun i v => ∃ y, xs[i]? = some y ∧ v = y.2) _ := {
        sub := W.sub, grefl := W.grefl, gtrans := W.gtrans, frame := W.frame, self := W.self
        item := fun i s Q E hi2 st hQ => W.item i s Q E (by rw [j6]; exact hi2) st fun v s' hP => hQ v s' (by
          have e : its.toList[i]? = some v := by rw [Array.getElem?_toList]; exact hP
          rw [hi, List.getElem?_map] at e
          obtain ⟨y, h1, h2⟩ := Option.map_eq_some_iff.mp e
          exact ⟨y, h1, h2.symm⟩)
        done := fun s Q E st hQ => W.done s Q E (by rw [j6]; exact st) hQ }
      refine loop_okI (led := ledOf w) W2 j4 hk hD (xs.length - 0) 0 _ [] (by omega) (Nat.zero_le _) ⟨⟨_, Heap.get?_push_size _ rfl, rfl, rfl⟩, (k9.push _)⟩ (fresh_setI (Heap.get?_push_of_some _ k1)) ⟨fun k => by simp, fun _ h => (nomatch h)⟩ ?hR
      case hR =>
        intro s' ys hm hS' hM
        obtain ⟨h', g', d', tk', os'⟩ := s'
        have eg : g' = s.gens := hm.gens
        have ed : d' = s.drawn := hm.drawn
        have eo : os' = s.os := hm.os
        subst eg ed eo
        show wpAny _ _ _ _ _ _
        refine wpAny_pure ?_
        show wpAny (model prog w) _ (ret Value.none) _ _ _
        refine wpAny_pure ⟨rfl, h', tk', ys, rfl, hS', hM, ?_, fun b o hb e => ?_⟩
        · obtain ⟨o, _, _, _, _, ho, _⟩ := hS'
          exact Heap.lt_size ho
        have b1 : b ≠ s.heap.objs.size := Nat.ne_of_lt hb
        have b2 : b ≠ (s.heap.push (newO w)).objs.size := by
          rw [Heap.size_push]; exact Nat.ne_of_lt (Nat.lt_succ_of_lt hb)
        exact hm.heap b o (by simp only [List.mem_cons, List.mem_singleton, List.not_mem_nil, or_false, not_or]; exact ⟨b1, b2⟩) (Heap.get?_push_of_some _ (Heap.get?_push_of_some _ e))
    · match r2, hr2 with
      | .error e, hr2 => exact hr2
      | .ok .next, hr => exact hr.elim
      | .ok .brk, hr => exact hr.elim
      | .ok .cont, hr => exact hr.elim
      | .ok (.ret r), hr2 =>
        obtain ⟨rfl, h', tk, ys, rfl, hS', hM, hsz, hk'⟩ := hr2
        repeat (any_goals (first | assumption | wp_step))
        exact h _ _ _ hS' hM hsz hk'
end
end Tab

namespace L2
open PySem PySem.Spec PyProof.Rows
theorem ints_keys {prog : Program} {w : World} : ∀ {its : List Value} {ns : List Int}, IntsAre its ns → ∃ xs : List Tab.Kn, xs.map (·.2) = its ∧ xs.map (·.1) = ns ∧ ∀ y ∈ xs, (Tab.IK prog w).is y.1 y.2 = true
  | _, _, .nil => ⟨[], rfl, rfl, fun _ h => (nomatch h)⟩
  | _, _, .cons n t hr => by
    obtain ⟨xs, h1, h2, h3⟩ := ints_keys (prog := prog) (w := w) hr
    refine ⟨(n, .int n t) :: xs, by rw [List.map_cons, h1], by rw [List.map_cons, h2], fun y hy => ?_⟩
    rcases List.mem_cons.mp hy with rfl | hy
    · exact intKind_is prog w n t
    · exact h3 y hy
theorem ints_of : ∀ {zs : List Tab.Kn} {prog : Program} {w : World}, (∀ y ∈ zs, (Tab.IK prog w).is y.1 y.2 = true) → IntsAre (zs.map (·.2)) (zs.map (·.1))
  | [], _, _, _ => .nil
  | y :: zs, prog, w, h => by
    obtain ⟨t, e⟩ := Value.isInt_shape (h y List.mem_cons_self)
    rw [List.map_cons, List.map_cons, e]
    exact .cons _ t (ints_of (prog := prog) (w := w) fun z hz => h z (List.mem_cons_of_mem _ hz))
section
variable {X : Cx}
noncomputable def tSI (K : PySem.W.Frag) (te : TE) : TE := fun σ H Q => te σ H fun x H1 => ∃ (p : Addr) (ns : List Int), x = .ref p ∧ SqL K H1 p (ns.map V.int) ∧ (∀ G : List Int, G.Nodup → (∀ x ∈ G, x ∈ ns) → G.length ≤ 299) ∧
  ∀ (l : Addr) (ms : List Int), H1 l = none → ms.Nodup → (∀ x, x ∈ ms ↔ x ∈ ns) → ms.Pairwise (· ≤ ·) → Q (.ref l) (upd H1 l (.lst (ms.map V.int)))
theorem pe_sortedSetI {e : Expr} {te : TE} {p q pos pos2 : Pos} (hc : X.calm = true) (hg : Gl X "sorted") (hm : X.mg "sorted" = none) (hg2 : Gl X "set") (hm2 : X.mg "set" = none) (he : PE X e te)
    (h1 : starEach [.Call (.Name "set" q) [e] [] pos2] X.env = [(false, eval (.Call (.Name "set" q) [e] [] pos2) X.env)] := by rfl) (h2 : starEach [e] X.env = [(false, eval e X.env)] := by rfl) :
    PE X (.Call (.Name "sorted" p) [.Call (.Name "set" q) [e] [] pos2] [] pos) (tSI X.K te) := by
  intro pins s σ H Q I h
  refine Call_name1 h1 (ld_blt I hg hm b_sorted (PySem.callWith_builtin1 ?_))
  refine Call_name1 h2 (ld_blt I hg2 hm2 b_set (PySem.callWith_type1 ?_))
  refine thn (he pins s σ H _ I h) fun v s1 ⟨x, H1, I1, r1, q1⟩ => ?_
  obtain ⟨p, ns, rfl, hq, hD, k⟩ := q1
  cases r1
  obtain ⟨its, rv, pl, hz⟩ := I1.list hq
  obtain ⟨xs, hx2, hx1, hkx⟩ := ints_keys (prog := X.prog) (w := X.w) (ints_vals rv)
  refine Tab.call_setI (xs := xs) (I1.ok.hd hc) pl.isList ?_ hkx (fun l hl1 hl2 => ?_) fun h2 tk ys hS hM hsz hk => ?_
  · rw [← hx2]
  · have := hD (l.map (·.1)) hl1 fun x hx => by
      obtain ⟨y, hy, rfl⟩ := List.mem_map.mp hx
      rw [← hx1]; exact List.mem_map.mpr ⟨y, hl2 y hy, rfl⟩
    rwa [List.length_map] at this
  obtain ⟨o, es, ep, t, L, ho, hex, hd, hes, T, hl, hp, hfill, hy, hys, hnd⟩ := hS
  have hf := T.fits hes
  have hesz : es.size = L.length := by rw [← Array.length_toList, hes, List.length_map]
  have hps : t.place.size = es.size := by rw [T.size, hesz]
  have hys2 : ys.length ≤ 299 := by
    have := hD (ys.map (·.1)) hnd fun x hx => by
      rw [hM.1, List.take_length, hx1] at hx; exact hx
    rwa [List.length_map] at this
  have hLy : L.length = ys.length := by have := congrArg List.length hy; simpa using this
  obtain ⟨zs, hzs, hzp⟩ := Tim.perm_map_inv (show (Tab.wk X.w s1.heap.objs.size ep es).toList.Perm (ys.map (Tab.encI X.prog X.w)) by rw [← hy, ← hes]; exact Tab.wk_perm _ _ _ _)
  have hvs : (Tab.wk X.w s1.heap.objs.size ep es).toList.map (·.2) = zs.map (·.2) := by rw [hzs, List.map_map]; rfl
  have hzl : zs.length ≤ 299 := by rw [hzp.length_eq]; exact hys2
  have hsm : 299 ≤ sizeLine := by rw [sizeLine_eq]; (clear hzl hLy hys2 hps hesz hfill hsz hz; omega)
  have hP : ∀ acc : Array Value, ItemsOf (fun i v => ∃ e, (Tab.wk X.w s1.heap.objs.size ep es)[i]? = some e ∧ v = e.2) acc es.size → acc.toList = zs.map (·.2) := fun acc hacc => by
    rw [← hvs]
    refine List.ext_getElem (by rw [Array.length_toList, hacc.1, List.length_map, Array.length_toList, Tab.wk_size]) fun i i1 i2 => ?_
    obtain ⟨e, he, hv⟩ := hacc.2 i acc.toList[i] (by rw [← Array.getElem?_toList, List.getElem?_eq_getElem i1])
    rw [hv, List.getElem_map]
    have i3 : i < (Tab.wk X.w s1.heap.objs.size ep es).toList.length := by simpa using i2
    have : (Tab.wk X.w s1.heap.objs.size ep es).toList[i]? = some e := by rw [Array.getElem?_toList]; exact he
    rw [List.getElem?_eq_getElem i3] at this
    rw [Option.some.inj this]
  have hzk : ∀ y ∈ zs, (Tab.IK X.prog X.w).is y.1 y.2 = true := fun y hy => hys y (hzp.mem_iff.mp hy)
  have hzi := ints_of hzk
  have hvl : (zs.map (·.2)).length = zs.length := List.length_map _
  refine Tab.sorted_src (s := { s1 with heap := h2, toks := tk }) (vs := zs.map (·.2)) (Hs := fun _ => True) (Tab.set_src (ep := ep) hf hp hl T.rise hps) (I1.ok.hd hc) ⟨o, ho, hex, hd⟩ (by (clear hvl hzl hps hfill hsz hz; omega)) hP (by rw [hvl]; (clear hvl hLy hys2 hps hesz hfill hsz hz; omega)) (fun _ _ => trivial) Tim.ord_int (fun _ => ints_all hzi) (fun h2' A E s' Q' hs' hq' => ?_) fun out h3 h4 e tk' hpm hs k1 k2 hD2 => ?_
  · generalize zs.map (·.2) = vs at hzi h2'
    match vs, hzi, h2' with
    | v1 :: v2 :: vs, hi, _ => rw [keyKind_ints hi]; exact wpAny_pure hq'
    | [_], _, h2' => simp at h2'
    | [], _, h2' => simp at h2'
  · have hall : ∀ v ∈ out, ∃ n t, v = Value.int n t := fun v hv => ints_all hzi v (hpm.mem_iff.mp hv)
    have k0 : ∀ b o, s1.heap.get? b = some o → h3.get? b = some o := fun b o e => k1 b o (hk b o (Heap.lt_size e) e)
    have I2 : Inv X pins σ H1 { s1 with heap := h3, toks := tk' } := I1.kept k0
    have hol : out.length ≤ 299 := by rw [hpm.length_eq, hvl]; exact hzl
    have hlen2 : ((out.map numOf).map V.int).length ≤ sizeLine := by rw [List.length_map, List.length_map]; (clear hvl hzl hLy hys2 hps hesz hfill hsz hz; omega)
    have J : Inv X pins σ (upd H1 h3.objs.size (.lst ((out.map numOf).map V.int))) { s1 with heap := h4, toks := tk' } := Inv.laid (s := { s1 with heap := h3, toks := tk' }) I2 k2 (Nat.le_refl _) ⟨hlen2, _, e, vals_num hall, hD2⟩
    have hpn : (out.map numOf).Perm (zs.map (·.1)) := by rw [ints_num hzi]; exact hpm.map _
    refine ⟨.ref h3.objs.size, _, J, rfl, k _ (out.map numOf) (I2.hok.fresh (Nat.le_refl _)) ?_ ?_ ?_⟩
    · exact hpn.nodup_iff.mpr ((hzp.map (·.1)).nodup_iff.mpr hnd)
    · intro x
      rw [hpn.mem_iff, (hzp.map (·.1)).mem_iff, hM.1, List.take_length, hx1]
    · rw [List.pairwise_map]
      refine hs.imp fun {a b} hab => ?_
      have : ¬ numOf b < numOf a := by simpa [Tim.le] using hab
      (clear hlen2 hol hvl hsm hzl hLy hys2 hps hesz hfill hsz hz; omega)
noncomputable def tLS (K : PySem.W.Frag) (te : TE) : TE := fun σ H Q => te σ H fun x H1 => ∃ (p : Addr) (as : List Addr) (F : List (List Int)), x = .ref p ∧ SqL K H1 p (as.map V.ref) ∧ TupsAt K H1 as F ∧ F.length ≤ 299 ∧
  ∀ G : List (List Int), G.Nodup → (∀ x, x ∈ G ↔ x ∈ F) → Q (.int (G.length : Nat)) H1
theorem pe_lenSet {e : Expr} {te : TE} {p q pos pos2 : Pos} (hc : X.calm = true) (hu : X.A.units + 64 < cLine) (hg : Gl X "len") (hm : X.mg "len" = none) (hg2 : Gl X "set") (hm2 : X.mg "set" = none) (he : PE X e te)
    (h1 : starEach [.Call (.Name "set" q) [e] [] pos2] X.env = [(false, eval (.Call (.Name "set" q) [e] [] pos2) X.env)] := by rfl) (h2 : starEach [e] X.env = [(false, eval e X.env)] := by rfl) :
    PE X (.Call (.Name "len" p) [.Call (.Name "set" q) [e] [] pos2] [] pos) (tLS X.K te) := by
  intro pins s σ H Q I h
  refine Call_name1 h1 (ld_blt I hg hm PySem.boot_len (PySem.callWith_builtin1 ?_))
  refine Call_name1 h2 (ld_blt I hg2 hm2 b_set (PySem.callWith_type1 ?_))
  refine thn (he pins s σ H _ I h) fun v s1 ⟨x, H1, I1, r1, q1⟩ => ?_
  obtain ⟨p, as, F, rfl, hq, ht, hF, k⟩ := q1
  cases r1
  obtain ⟨its, rv, pl, hz⟩ := I1.list hq
  have hits : its = as.map Value.ref := by
    clear hq ht k pl hz
    revert its
    induction as with
    | nil => intro its rv; cases rv; rfl
    | cons a as ih => intro its rv; cases rv with | cons r t => rw [show _ = Value.ref a from r, ih _ t]; rfl
  have hlen : as.length = F.length := Paired.length ht
  have key : ∀ {a : Addr} {xs : List Int}, SqT X.K H1 a (xs.map V.int) → IsTupleKey (Tab.IK X.prog X.w) s1.heap xs a := fun {a xs} hx => by
    obtain ⟨ts, rt, ⟨o, ho, hc, n, hd⟩, _⟩ := I1.tuple hx
    exact ⟨o, ts.toArray, n, ho, hc, hd, by simpa using Tab.items_of (ints_vals rt)⟩
  have hsq : ∀ y ∈ F.zip as, SqT X.K H1 y.2 (y.1.map V.int) := by
    clear k hq rv hz hits hlen
    induction ht with
    | nil => intro y hy; simp at hy
    | cons r t ih =>
      intro y hy
      rw [List.zip_cons_cons] at hy
      rcases List.mem_cons.mp hy with rfl | hy
      · exact r
      · exact ih (by simp at hF; (clear hu; omega)) y hy
  have hx1 : (F.zip as).map (·.1) = F := List.map_fst_zip (by (clear hz hF hu; omega))
  have hx2 : (F.zip as).map (·.2) = as := List.map_snd_zip (by (clear hz hF hu; omega))
  generalize F.zip as = xs at hsq hx1 hx2
  have hxl : xs.length ≤ 299 := by have := congrArg List.length hx1; rw [List.length_map] at this; (clear hlen hz hu; omega)
  refine Tab.call_setL (xs := xs) (I1.ok.hd hc) (by (clear hxl hlen hz hF; omega)) pl.isList ?_ (fun y hy => key (hsq y hy)) (fun l hl1 hl2 => ?_) fun h2 tk ys hS hM hsz hk => ?_
  · rw [← hx2] at hits
    rw [hits, List.map_map]; rfl
  · have hn : l.Nodup := by
      rw [List.nodup_iff_pairwise_ne, List.pairwise_map] at hl1
      exact List.nodup_iff_pairwise_ne.mpr (hl1.imp fun {a b} h z => h (by rw [z]))
    exact Nat.le_trans (List.Nodup.length_le_of_subset hn fun y hy => hl2 y hy) hxl
  obtain ⟨o, es, ep, t, L, ho, hex, hd, hes, T, hl, hp, hfill, hy, hys, hnd⟩ := hS
  have hf := T.fits hes
  have hesz : es.size = L.length := by rw [← Array.length_toList, hes, List.length_map]
  have hLy : L.length = ys.length := by have := congrArg List.length hy; simpa using this
  have hmk : t.mask ≤ 511 := by rcases T.msk with q | q | q | q <;> rw [q] <;> decide
  refine call_len_set (s := { s1 with heap := h2, toks := tk }) ho hex hd hf (by rw [hesz]; have := T.few; (clear this hLy hesz hsz hxl hlen hz hF hu; omega)) ?_
  have I2 : Inv X pins σ H1 { s1 with heap := h2, toks := tk } := I1.kept fun b o e => hk b o (Heap.lt_size e) e
  refine ⟨.int (es.size : Nat), H1, I2.tok _, ⟨_, rfl⟩, ?_⟩
  have := k (ys.map (·.1)) hnd fun x => by rw [hM.1, List.take_length, hx1]
  rw [List.length_map, ← hLy, ← hesz] at this
  exact this
end
end L2

namespace K15
open PySem L2
noncomputable def top (i : Nat) : Stmt := PySem.Challenge.pw_shadowheaps_k15_families_read_or_refused.main.body.getD i (.Pass ⟨0, 0, 0, 0⟩)
structure Bt (mg : Str → Option Value) : Prop where
  len : mg "len" = none
  min : mg "min" = none
  max : mg "max" = none
  sum : mg "sum" = none
  sorted : mg "sorted" = none
  list : mg "list" = none
  tuple : mg "tuple" = none
  set : mg "set" = none
  reversed : mg "reversed" = none
  isinstance : mg "isinstance" = none
  int : mg "int" = none
  bool : mg "bool" = none
  range : mg "range" = none
  enumerate : mg "enumerate" = none
  ValueError : mg "ValueError" = none
  any : mg "any" = none
  str : mg "str" = none
  dict : mg "dict" = none
theorem ite4 {b : Bool} {A B S : Prop} (hB : S → B) (hn : ¬ b = true → S) (hA : (S → B) → b = true → A) : if b = true then A else B := by
  cases b with
  | true => exact hA hB rfl
  | false => exact hB (hn (by decide))
theorem room1 {k : Nat} {A : PySem.Around} (r : Room k A) : A.units + 1 < cLine := by have := r.un; omega
theorem upd_fresh {H : Hp} {a : Addr} {o : HO} (h : H a = none) : Same H (upd H a o) := fun b u e => by rw [upd_ne (ne_of_none e h)]; exact e
theorem mod_nat (x : Int) (m : Nat) (h : 0 < m) : ∃ n : Nat, x % (m : Int) = (n : Int) ∧ n < m :=
  ⟨(x % (m : Int)).toNat, by have := Int.emod_nonneg x (show (m : Int) ≠ 0 by omega); omega, by have := Int.emod_lt_of_pos x (show (0 : Int) < m by omega); omega⟩
noncomputable def spLaw (K : PySem.W.Frag) : Sp := fun vs H Q _ => ∃ (a : Addr) (ns : List Int), vs = [.ref a] ∧ SqL K H a (ns.map V.int) ∧ ns.length ≤ 63 ∧ ∀ H', Q (.bl true) H'
end K15

namespace K15
open PySem L2
noncomputable def rises (b : Int) : Int → List Int → Bool
  | _, [] => true
  | p, x :: r => if x ≤ p ∨ b ≤ x then false else rises b x r
noncomputable def spRb (K : PySem.W.Frag) : Sp := fun vs H Q _ => ∃ (p : Addr) (ns : List Int) (b : Int), vs = [.ref p, .int b] ∧ SqT K H p (ns.map V.int) ∧ Q (.bl (rises b (-1) ns)) H
section
variable {P : Program} {w : World} {K : PySem.W.Frag} {mg : Str → Option Value} {base : Heap}
theorem sc_rises_below : FnScope ["one", "bound", "before", "thing"] ["one", "bound"] (defScope (top 7)) := ⟨rfl, rfl, rfl, by decide +kernel, rfl, by decide +kernel, by decide +kernel⟩
theorem ok_rises_below {f : Addr} {fd : FuncData} (F : Fun K "rises_below" "rises_below" (top 7) f fd) : FnOk P w K mg base CX0 1 f fd ["one", "bound"] (spRb K) := by
  have nd := sc_rises_below.nd
  refine F.ok sc_rises_below (fun vs H Q E h => ?_) (fun cdv A outer s H vs Q E hr h => ?_)
  · obtain ⟨p, ns, b, rfl, _⟩ := h
    rfl
  · obtain ⟨p, ns, b, rfl, hq, k⟩ := h
    refine ⟨_, (pss_cons (ps_set (i := 2) nd rfl (Or.inl rfl) (pe_un un_neg pe_int))
        (pss_cons (ps_for PassesOwn.never rfl (pi_tup (pv 0)) (pg_name (i := 3) nd rfl (Or.inl rfl)) (pss_cons (ps_if (PW.pt (pw_or (pt_cmpR op_le (pv 3) (pv 2) (nomark _)) (pw_or1 (pt_cmpR op_ge (pv 3) (pv 1) (nomark _))))) (pss_one (ps_ret pe_bl)) pss_nil)
        (pss_one (ps_set (i := 2) nd rfl (Or.inl rfl) (pv 3)))))
        (pss_one (ps_ret pe_bl)))), ?_⟩
    refine ⟨_, rfl, _, rfl, p, rfl, ⟨_, hq⟩, ?_⟩
    refine for_tup (K := K) (a := p) (xs := ns.map V.int) (fun i σ H2 => ∃ (v : Option V) (c : Int), σ = [some (.ref p), some (.int b), some (.int c), v] ∧ H2 = H ∧ rises b (-1) ns = rises b c (ns.drop i)) ⟨none, -1, rfl, rfl, rfl⟩ (fun i σ H2 _ ⟨_, _, _, e, _⟩ => e ▸ hq) ?_ ?_
    · rintro i y σ H2 hy ⟨v, c, rfl, rfl, e⟩
      rw [List.getElem?_map] at hy
      obtain ⟨z, hz, rfl⟩ := Option.map_eq_some_iff.mp hy
      obtain ⟨hl, hz⟩ := List.getElem?_eq_some_iff.mp hz
      rw [List.drop_eq_getElem_cons hl, hz] at e
      refine ⟨_, rfl, _, rfl, _, _, rfl, rfl, _, rfl, ?_⟩
      refine ite2 (fun h1 => ?_) (fun h1 => ?_)
      · have h1 : z ≤ c := by simpa using h1
        refine iteT ?_
        rw [e, rises, if_pos (.inl h1)] at k
        exact k
      · have h1 : ¬ z ≤ c := by simpa using h1
        refine ⟨_, rfl, _, rfl, _, _, rfl, rfl, _, rfl, ?_⟩
        refine ite2 (fun h2 => ?_) (fun h2 => ?_)
        · have h2 : b ≤ z := by simpa using h2
          rw [e, rises, if_pos (.inr h2)] at k
          exact k
        · have h2 : ¬ b ≤ z := by simpa using h2
          rw [rises, if_neg (by omega)] at e
          exact ⟨_, rfl, _, z, rfl, rfl, e⟩
    · rintro σ H2 ⟨v, c, rfl, rfl, e⟩
      rw [List.length_map, List.drop_length, rises] at e
      rw [e] at k
      exact k
end
end K15

namespace K15
open PySem L2
noncomputable def spCell (K : PySem.W.Frag) : Sp := fun vs H Q _ => ∃ (a : Addr) (ns : List Int) (k : Nat), vs = [.ref a, .int k] ∧ SqL K H a (ns.map V.int) ∧ Q (.int (ns.getD k 0)) H
section
variable {P : Program} {w : World} {K : PySem.W.Frag} {mg : Str → Option Value} {base : Heap}
theorem sc__law_cell_at : FnScope ["script", "k"] ["script", "k"] (defScope (top 17)) := ⟨rfl, rfl, rfl, by decide +kernel, rfl, by decide +kernel, by decide +kernel⟩
theorem ok__law_cell_at {f : Addr} {fd : FuncData} (F : Fun K "_law_cell_at" "_law_cell_at" (top 17) f fd) (B : Bt mg) : FnOk P w K mg base CX0 1 f fd ["script", "k"] (spCell K) := by
  have nd := sc__law_cell_at.nd
  refine F.ok sc__law_cell_at (fun vs H Q E h => ?_) (fun cdv A outer s H vs Q E hr h => ?_)
  · obtain ⟨a, ns, j, rfl, _⟩ := h
    rfl
  · obtain ⟨a, ns, j, rfl, hq, k⟩ := h
    refine ⟨_, (pss_cons (ps_if (pt_cmpR op_lt (pv 1) (pe_callB call_len_seq rfl B.len PySem.boot_len (pa_cons (pv 0) pa_nil)) (nomark _)) (pss_one (ps_ret (pe_ix (r := rIxL K) ix_list (pv 0) (pv 1) (fun _ _ => rfl)))) pss_nil)
        (pss_one (ps_ret pe_int))), ?_⟩
    refine ⟨_, rfl, _, rfl, _, _, rfl, .inl hq, _, _, rfl, rfl, _, rfl, ?_⟩
    refine ite2 (fun h1 => ?_) (fun h1 => ?_)
    · have h1 : j < ns.length := by simpa using h1
      refine ⟨_, rfl, _, rfl, _, _, _, .int (ns.getD j 0), rfl, rfl, hq, ?_, k⟩
      unfold atI ixN
      rw [if_pos (by omega), if_pos (by simpa using h1)]
      simp [h1]
    · have h1 : ¬ j < ns.length := by simpa using h1
      have e : ns.getD j 0 = 0 := by rw [List.getD_eq_getElem?_getD, List.getElem?_eq_none (by omega)]; rfl
      rw [e] at k
      exact k
end
end K15

namespace K15
open PySem L2
noncomputable def spWh : Sp := fun vs H Q _ => ∃ n : Int, vs = [.int n] ∧ Q (.bl true) H
section
variable {P : Program} {w : World} {K : PySem.W.Frag} {mg : Str → Option Value} {base : Heap}
theorem sc__law_whole : FnScope ["found"] ["found"] (defScope (top 18)) := ⟨rfl, rfl, rfl, by decide +kernel, rfl, by decide +kernel, by decide +kernel⟩
theorem ok__law_whole {f : Addr} {fd : FuncData} (F : Fun K "_law_whole" "_law_whole" (top 18) f fd) (B : Bt mg) : FnOk P w K mg base CX0 1 f fd ["found"] spWh := by
  have nd := sc__law_whole.nd
  refine F.ok sc__law_whole (fun vs H Q E h => ?_) (fun cdv A outer s H vs Q E hr h => ?_)
  · obtain ⟨n, rfl, _⟩ := h
    rfl
  · obtain ⟨n, rfl, k⟩ := h
    refine ⟨_, (pss_one (ps_ret (pe_and (pe_isB rfl B.isinstance rfl B.int b_int (pv 0)) (pe_one (pe_not (pe_isB rfl B.isinstance rfl B.bool b_bool (pv 0))))))), ?_⟩
    refine ⟨_, rfl, _, _, .int n, rfl, _, rfl, iteT ?_⟩
    refine ⟨_, rfl, _, _, .int n, rfl, _, rfl, ?_⟩
    exact k
end
end K15

namespace K15
open PySem L2
theorem at_of {xs : List V} {i : Nat} {v : V} (h : xs[i]? = some v) : atI xs (i : Int) = some v := by
  have hl := (List.getElem?_eq_some_iff.mp h).1
  unfold atI ixN
  rw [if_pos (by omega), if_pos (by omega)]
  exact h
end K15

namespace K15
open PySem L2
noncomputable def TupsH (H : Hp) (as : List Addr) (F : List (List Int)) : Prop := Paired (fun a xs => H a = some (.tup (xs.map V.int))) as F
theorem TupsH.len {H : Hp} {as : List Addr} {F : List (List Int)} (h : TupsH H as F) : as.length = F.length := by
  induction h with
  | nil => rfl
  | cons _ _ ih => rw [List.length_cons, List.length_cons, ih]
theorem TupsH.at {H : Hp} {as : List Addr} {F : List (List Int)} (h : TupsH H as F) : ∀ {i : Nat} {a : Addr}, as[i]? = some a → ∃ xs, F[i]? = some xs ∧ H a = some (.tup (xs.map V.int)) := by
  induction h with
  | nil => intro i a e; simp at e
  | cons r t ih =>
    intro i a e
    cases i with
    | zero => simp at e; subst e; exact ⟨_, rfl, r⟩
    | succ i => exact ih (by simpa using e)
theorem TupsH.same {H H' : Hp} {as : List Addr} {F : List (List Int)} (h : TupsH H as F) (s : Same H H') : TupsH H' as F := by
  induction h with
  | nil => exact .nil
  | cons r t ih => exact .cons (s _ _ r) ih
theorem deqs_i : ∀ xs ys : List Int, deqs (xs.map Dt.i) (ys.map Dt.i) = decide (xs = ys)
  | [], [] => by simp [deqs]
  | [], _ :: _ => by simp [deqs]
  | _ :: _, [] => by simp [deqs]
  | x :: xs, y :: ys => by
    rw [List.map_cons, List.map_cons, deqs, deqs_i xs ys, deq]
    rw [Bool.eq_iff_iff]
    simp
theorem likes_i : ∀ xs ys : List Int, likes (xs.map Dt.i) (ys.map Dt.i)
  | [], [] => trivial
  | [], _ :: _ => trivial
  | _ :: _, [] => trivial
  | x :: xs, y :: ys => ⟨trivial, likes_i xs ys⟩
theorem deps_i : ∀ xs : List Int, deps (xs.map Dt.i) = 0
  | [] => rfl
  | x :: xs => by rw [List.map_cons, deps, deps_i xs]; rfl
theorem atDs_i {K : PySem.W.Frag} {H : Hp} : ∀ xs : List Int, AtDs K H (xs.map V.int) (xs.map Dt.i)
  | [] => trivial
  | x :: xs => ⟨rfl, atDs_i xs⟩

theorem TupsH.snoc {H : Hp} {as : List Addr} {F : List (List Int)} {a : Addr} {xs : List Int} (h : TupsH H as F) (e : H a = some (.tup (xs.map V.int))) : TupsH H (as ++ [a]) (F ++ [xs]) := by
  induction h with
  | nil => exact .cons e .nil
  | cons r t ih => exact .cons r ih
noncomputable def okx (xs : List Int) (t : Nat) : Bool := match xs.getLast? with | none => true | some l => decide (l < (t : Int))
noncomputable def ext (n : Nat) (xs : List Int) : List (List Int) := ((List.range n).filter (okx xs)).map fun t : Nat => xs ++ [(t : Int)]
noncomputable def stg (n : Nat) : Nat → List (List Int)
  | 0 => [[]]
  | k + 1 => (stg n k).flatMap (ext n)
theorem ext_len (n : Nat) (xs : List Int) : (ext n xs).length ≤ n := by
  unfold ext
  rw [List.length_map]
  exact Nat.le_trans (List.length_filter_le _ _) (by rw [List.length_range]; exact Nat.le_refl _)
theorem flat_len {α β : Type} (f : α → List β) (n : Nat) (h : ∀ x, (f x).length ≤ n) : ∀ l : List α, (l.flatMap f).length ≤ l.length * n
  | [] => by simp
  | x :: l => by
    rw [List.flatMap_cons, List.length_append, List.length_cons, Nat.add_mul]
    have := flat_len f n h l
    have := h x
    omega
theorem stg_len (n : Nat) : ∀ k, (stg n k).length ≤ n ^ k
  | 0 => by simp [stg]
  | k + 1 => by
    have h1 := flat_len (ext n) n (ext_len n) (stg n k)
    have h2 := Nat.mul_le_mul_right n (stg_len n k)
    rw [Nat.pow_succ]
    exact Nat.le_trans h1 h2
theorem stg_le (n : Nat) : ∀ (k : Nat) (xs : List Int), xs ∈ stg n k → xs.length ≤ k
  | 0, xs, h => by
    have : xs = [] := by simpa [stg] using h
    subst this; exact Nat.le_refl _
  | k + 1, xs, h => by
    obtain ⟨ys, hy, hx⟩ := List.mem_flatMap.mp h
    obtain ⟨t, _, rfl⟩ := List.mem_map.mp hx
    have := stg_le n k ys hy
    rw [List.length_append]
    show ys.length + 1 ≤ k + 1
    omega
theorem stg_pos (n : Nat) : ∀ (k : Nat), 1 ≤ k → ∀ (xs : List Int), xs ∈ stg n k → 1 ≤ xs.length
  | 0, h, _, _ => absurd h (by (clear h; omega))
  | k + 1, _, xs, h => by
    obtain ⟨ys, hy, hx⟩ := List.mem_flatMap.mp h
    obtain ⟨t, _, rfl⟩ := List.mem_map.mp hx
    rw [List.length_append]
    show 1 ≤ ys.length + 1
    omega
theorem take_flat {α β : Type} (f : α → List β) (l : List α) (i : Nat) (h : i < l.length) : (l.take (i + 1)).flatMap f = (l.take i).flatMap f ++ f l[i] := by
  rw [List.take_succ_eq_append_getElem h, List.flatMap_append]
  simp
theorem at_last {xs : List Int} (h : xs ≠ []) : ∃ l, xs.getLast? = some l ∧ atI (xs.map V.int) (-1) = some (.int l) := by
  obtain ⟨l, hl⟩ : ∃ l, xs.getLast? = some l := by
    cases q : xs.getLast? with
    | none => exact absurd (List.getLast?_eq_none_iff.mp q) h
    | some l => exact ⟨l, rfl⟩
  refine ⟨l, hl, ?_⟩
  have hp : 0 < xs.length := List.length_pos_iff.mpr h
  unfold atI ixN
  rw [if_neg (by decide), if_pos (by rw [List.length_map]; omega)]
  show (xs.map V.int)[((-1 : Int) + ((xs.map V.int).length : Nat)).toNat]? = _
  rw [List.length_map, show ((-1 : Int) + (xs.length : Nat)).toNat = xs.length - 1 by (clear hp; omega), List.getElem?_map, ← List.getLast?_eq_getElem?, hl]
  rfl
theorem TupsH.mem {H : Hp} {as : List Addr} {F : List (List Int)} (h : TupsH H as F) : ∀ {a : Addr} {xs : List Int}, (a, xs) ∈ as.zip F → H a = some (.tup (xs.map V.int)) := by
  induction h with
  | nil => intro a xs e; simp at e
  | cons r t ih =>
    intro a xs e
    rcases List.mem_cons.mp e with z | z
    · cases z; exact r
    · exact ih z
theorem TupsH.of_zip {H : Hp} : ∀ {as : List Addr} {F : List (List Int)}, as.length = F.length → (∀ a xs, (a, xs) ∈ as.zip F → H a = some (.tup (xs.map V.int))) → TupsH H as F
  | [], [], _, _ => .nil
  | a :: as, x :: F, hl, h => .cons (h a x (by simp)) (TupsH.of_zip (by simpa using hl) fun b y hb => h b y (by simp [hb]))
  | [], _ :: _, hl, _ => by simp at hl
  | _ :: _, [], hl, _ => by simp at hl
theorem TupsH.at' {K : PySem.W.Frag} {H : Hp} {as : List Addr} {F : List (List Int)} (h : TupsH H as F) : TupsAt K H as F := by
  induction h with
  | nil => exact .nil
  | cons r t ih => exact .cons (.inl (.inl r)) ih
theorem TupsH.put {H : Hp} {as : List Addr} {F : List (List Int)} {L : Addr} {o : List V} {o2 : HO} (h : TupsH H as F) (hL : H L = some (.lst o)) : TupsH (upd H L o2) as F := by
  induction h with
  | nil => exact .nil
  | cons r t ih => exact .cons (by rw [upd_ne (fun z => by rw [z, hL] at r; cases r)]; exact r) ih
theorem same_put {H H1 : Hp} {L : Addr} {o : HO} (s : Same H H1) (hL : H L = none) : Same H (upd H1 L o) := fun b u e => by rw [upd_ne (ne_of_none e hL)]; exact s b u e
theorem TupsAt.len {K : PySem.W.Frag} {H : Hp} {as : List Addr} {F : List (List Int)} (h : TupsAt K H as F) : as.length = F.length := by
  unfold TupsAt at h
  induction h with
  | nil => rfl
  | cons _ _ ih => rw [List.length_cons, List.length_cons, ih]
noncomputable def spSets : Sp := fun vs H Q _ => ∃ (n sz : Nat), vs = [.int n, .int sz] ∧ n ≤ 1000 ∧ 1 ≤ sz ∧ sz ≤ 12 ∧ n ^ sz ≤ 10000000 ∧ ∀ l H2 (as : List Addr) (G : List (List Int)), Same H H2 → H l = none → H2 l = some (.lst (as.map V.ref)) → TupsH H2 as (G.map List.reverse) → G.Perm ((stg n sz).map List.reverse) → G.Pairwise (fun x y => HT.lexLt y x = false) → Q (.ref l) H2
section
variable {P : Program} {w : World} {K : PySem.W.Frag} {mg : Str → Option Value} {base : Heap}
theorem sc__law_sets : FnScope ["things", "size", "sets", "k", "longer", "one", "thing"] ["things", "size"] (defScope (top 19)) := ⟨rfl, rfl, rfl, by decide +kernel, rfl, by decide +kernel, by decide +kernel⟩
set_option maxHeartbeats 4000000 in
theorem ok__law_sets {f : Addr} {fd : FuncData} (F : Fun K "_law_sets" "_law_sets" (top 19) f fd) (B : Bt mg) : FnOk P w K mg base CX0 4 f fd ["things", "size"] spSets := by
  have nd := sc__law_sets.nd
  refine F.ok sc__law_sets (fun vs H Q E h => ?_) (fun cdv A outer s H vs Q E hr h => ?_)
  · obtain ⟨n, sz, rfl, _⟩ := h
    rfl
  · obtain ⟨n, sz, rfl, hn, h1, h12, hpow, k⟩ := h
    have hu := hr.units
    refine ⟨_, (pss_cons (ps_set (i := 2) nd rfl (Or.inl rfl) (pe_lst (pa_cons (pe_tup pa_nil) pa_nil)))
        (pss_cons (ps_for PassesOwn.never rfl (pi_range1 rfl B.range (pa_cons (pv 1) pa_nil)) (pg_name (i := 3) nd rfl (Or.inl rfl)) (pss_cons (ps_set (i := 4) nd rfl (Or.inl rfl) (pe_lst pa_nil))
        (pss_cons (ps_for PassesOwn.never rfl (pi_list (pv 2)) (pg_name (i := 5) nd rfl (Or.inl rfl)) (pss_one (ps_for PassesOwn.never rfl (pi_range1 rfl B.range (pa_cons (pv 0) pa_nil)) (pg_name (i := 6) nd rfl (Or.inl rfl)) (pss_one (ps_if (PW.pt (pw_or (pt_cmpR (op_eqK (K := K) hu) (pv 5) (pe_tup pa_nil) (nomark _)) (pw_or1 (pt_cmpR op_gt (pv 6) (pe_ix (r := rIxT K) ix_tup (pv 5) (pe_un un_neg pe_int) (fun _ _ => rfl)) (nomark _))))) (pss_one (ps_expr (pe_bm PySem.F.plainAttrs_list PySem.F.slot_list_append PySem.F.type_list_append mt_append (pv 4) (pa_cons (pe_op (op_catK (K := K)) (pv 5) (pe_tup (pa_cons (pv 6) pa_nil))) pa_nil)))) pss_nil)))))
        (pss_one (ps_set (i := 2) nd rfl (Or.inl rfl) (pv 4))))))
        (pss_one (ps_ret (pe_comp ["back"] [] ⟨rfl, by decide +kernel, by decide +kernel, of_decide_eq_true (by kernel_rfl), fun j hj => (nomatch hj)⟩ rfl (gown_name (by decide)) (pi_list (pe_callB (call_sortedT) rfl B.sorted b_sorted (pa_cons (pe_comp ["one"] [] ⟨rfl, by decide +kernel, by decide +kernel, of_decide_eq_true (by kernel_rfl), fun j hj => (nomatch hj)⟩ rfl (gown_name (by decide)) (pi_list (pv 2)) (fun _ _ _ _ => (pg_name (i := 0) (show (["one"] : List Str).Nodup from by decide +kernel) rfl (Or.inl rfl) (.inr rfl))) (fun _ _ _ _ => pifs_nil) (fun _ _ _ _ => (pe_tupRevTK (K := K) rfl rfl B.tuple rfl B.reversed (pv 0)))) pa_nil))) (fun _ _ _ _ => (pg_name (i := 0) (show (["back"] : List Str).Nodup from by decide +kernel) rfl (Or.inl rfl) (.inr rfl))) (fun _ _ _ _ => pifs_nil) (fun _ _ _ _ => (pe_tupRevTK (K := K) rfl rfl B.tuple rfl B.reversed (pv 0)))))))), ?_⟩
    refine ⟨Nat.zero_le _, fun e0 he0 => ⟨(by show 1 ≤ sizeLine; decide), fun S0 hS0 => ?_⟩⟩
    have ne0 : e0 ≠ S0 := fun z => by rw [← z, upd_same] at hS0; cases hS0
    refine ⟨_, rfl, sz, rfl, by (clear ne0 hu hpow h12 h1 hn; omega), by (clear ne0 hu hpow h1 hn; omega), ?_⟩
    have small : ∀ j, j ≤ sz → ∀ m, m ≤ n ^ j → m < sizeLine := fun j hj m hm => by
      have h0 : n ^ j ≤ 10000000 ∨ n = 0 := by
        rcases Nat.eq_zero_or_pos n with z | z
        · exact .inr z
        · exact .inl (Nat.le_trans (Nat.pow_le_pow_right z hj) hpow)
      rcases h0 with h0 | h0
      · exact Nat.lt_of_le_of_lt (Nat.le_trans hm h0) (by decide)
      · subst h0
        rcases Nat.eq_zero_or_pos j with z | z
        · subst z; exact Nat.lt_of_le_of_lt hm (by decide)
        · rw [Nat.zero_pow z] at hm; exact Nat.lt_of_le_of_lt hm (by decide)
    refine for_range (fun j σ H2 => ∃ (S : Addr) (as : List Addr) (v3 v4 v5 v6 : Option V), σ = [some (.int n), some (.int sz), some (.ref S), v3, v4, v5, v6] ∧ Same H H2 ∧ H2 S = some (.lst (as.map V.ref)) ∧ TupsH H2 as (stg n j))
      ⟨S0, [e0], none, none, none, none, rfl, (upd_fresh he0).trans (upd_fresh hS0), upd_same, .cons (by rw [upd_ne ne0, upd_same]; rfl) .nil⟩ ?_ ?_
    · rintro j σ H2 hj ⟨S, as, v3, v4, v5, v6, rfl, s2, hS, hT⟩
      have hj : j < sz := by (clear ne0 hu hpow h12 h1 hn; omega)
      refine ⟨Nat.zero_le _, fun L hL => ?_⟩
      refine ⟨_, rfl, S, rfl, ⟨_, .inl (.inl (upd_fresh hL _ _ hS))⟩, ?_⟩
      have hLas := hT.len
      refine for_list (K := K) (a := S) (xs := as.map V.ref) (fun i σ H3 => ∃ (bs : List Addr) (v5 v6 : Option V), σ = [some (.int n), some (.int sz), some (.ref S), some (.int (0 + (j : Int))), some (.ref L), v5, v6] ∧ Same H2 H3 ∧ H3 L = some (.lst (bs.map V.ref)) ∧ TupsH H3 bs (((stg n j).take i).flatMap (ext n)))
        ⟨[], v5, v6, rfl, upd_fresh hL, upd_same, .nil⟩ (fun i σ H3 _ ⟨_, _, _, _, s3, _⟩ => s3.seq (.inl (.inl hS))) ?_ ?_
      · rintro i y σ H3 hy ⟨bs, v5, v6, rfl, s3, hL3, hT3⟩
        rw [List.getElem?_map] at hy
        obtain ⟨a, ha, rfl⟩ := Option.map_eq_some_iff.mp hy
        obtain ⟨xs, hx, ha2⟩ := hT.at ha
        obtain ⟨hil, hxi⟩ := List.getElem?_eq_some_iff.mp hx
        have ha3 := s3 _ _ ha2
        refine ⟨_, rfl, n, rfl, by (clear hLas hj ne0 hu hpow h12 h1 hn; omega), by (clear hLas hj ne0 hu hpow h12 h1; omega), ?_⟩
        have hbs3 := hT3.len
        have tk1 : ∀ m : Nat, (((List.range (m + 1)).filter (okx xs)).map fun t : Nat => xs ++ [(t : Int)]) = (((List.range m).filter (okx xs)).map fun t : Nat => xs ++ [(t : Int)]) ++ (if okx xs m then [xs ++ [(m : Int)]] else []) := fun m => by
          rw [List.range_succ, List.filter_append, List.map_append]
          congr 1
          cases q : okx xs m <;> simp [q]
        have room : ∀ m : Nat, m ≤ n → (((stg n j).take i).flatMap (ext n) ++ ((List.range m).filter (okx xs)).map fun t : Nat => xs ++ [(t : Int)]).length ≤ n ^ (j + 1) := fun m hm => by
          have e1 : ((stg n j).take (i + 1)).flatMap (ext n) = ((stg n j).take i).flatMap (ext n) ++ ext n xs := by rw [take_flat _ _ _ hil, hxi]
          have e2 : ((stg n j).take (i + 1)).flatMap (ext n) ++ ((stg n j).drop (i + 1)).flatMap (ext n) = stg n (j + 1) := by rw [← List.flatMap_append, List.take_append_drop]; rfl
          have e3 := stg_len n (j + 1)
          rw [← e2, e1, List.length_append, List.length_append] at e3
          have e4 : (((List.range m).filter (okx xs)).map fun t : Nat => xs ++ [(t : Int)]).length ≤ (ext n xs).length := by
            unfold ext
            rw [List.length_map, List.length_map]
            have : (List.range m).Sublist (List.range n) := List.range_sublist.mpr hm
            exact (this.filter _).length_le
          rw [List.length_append]
          (clear hm hbs3 hLas hj ne0 hu hpow h12 h1 hn; omega)
        refine for_range (fun t σ H4 => ∃ (cs : List Addr) (v6 : Option V), σ = [some (.int n), some (.int sz), some (.ref S), some (.int (0 + (j : Int))), some (.ref L), some (.ref a), v6] ∧ Same H2 H4 ∧ H4 L = some (.lst (cs.map V.ref)) ∧ TupsH H4 cs (((stg n j).take i).flatMap (ext n) ++ ((List.range t).filter (okx xs)).map fun t : Nat => xs ++ [(t : Int)]))
          ⟨bs, v6, rfl, s3, hL3, by simpa using hT3⟩ ?_ ?_
        · rintro t σ H4 ht ⟨cs, v6, rfl, s4, hL4, hT4⟩
          have ht : t < n := by (clear hbs3 hLas hj ne0 hu hpow h12 h1 hn; omega)
          have ha4 := s4 _ _ ha2
          have hcl := hT4.len
          have hroom : cs.length < sizeLine := by
            refine small (j + 1) (by (clear hcl ht hbs3 hLas hj ne0 hu hpow h12 h1 hn; omega)) _ ?_
            rw [hcl]; exact room t (by (clear hcl ht hbs3 hLas hj ne0 hu hpow h12 h1 hn; omega))
          refine ⟨_, rfl, Nat.zero_le _, fun e1 he1 => ?_⟩
          have s5 : Same H4 (upd H4 e1 (.tup [])) := upd_fresh he1
          refine ⟨.t (xs.map Dt.i), .t [], ⟨a, _, rfl, .inl (.inl (s5 _ _ ha4)), atDs_i xs⟩, ⟨e1, [], rfl, .inl (.inl upd_same), trivial⟩, likes_i xs [], ?_, ?_, _, rfl, ?_⟩
          · rw [dep]; (clear hroom hcl ht hbs3 hLas hj ne0 hu hpow h12 h1 hn; omega)
          · rw [dep, deps_i]; (clear hroom hcl ht hbs3 hLas hj ne0 hu hpow h12 h1 hn; omega)
          have edq : deq (.t (xs.map Dt.i)) (.t []) = decide (xs = []) := by rw [deq]; exact deqs_i xs []
          show if deq (.t (xs.map Dt.i)) (.t []) = true then _ else _
          rw [edq]
          by_cases hx0 : xs = []
          · rw [decide_eq_true hx0]
            refine (iteT ?_ : if true = true then _ else _)
            refine (iteT ?_ : if true = true then _ else _)
            refine ⟨_, rfl, .inl ⟨rfl, _, .inl (.inl (s5 _ _ hL4))⟩, _, rfl, _, rfl, (by show 1 ≤ sizeLine; decide), fun e2 he2 => ?_⟩
            have s6 := s5.trans (upd_fresh he2 (o := .tup [.int (0 + (t : Int))]))
            refine ⟨a, e2, _, _, rfl, rfl, .inl (.inl (s6 _ _ ha4)), .inl (.inl upd_same), (by rw [List.length_map, hx0]; show 0 + 1 ≤ sizeLine; decide), fun _ => ?_, fun z => absurd (by rw [hx0]; rfl) z, fun z => absurd (by rw [hx0]; rfl) z⟩
            refine ⟨L, _, _, rfl, rfl, s6 _ _ hL4, by rw [List.length_map]; exact hroom, ?_⟩
            have ne2 : e2 ≠ L := fun z => by rw [z] at he2; rw [s5 _ _ hL4] at he2; cases he2
            refine ⟨cs ++ [e2], _, rfl, same_put (s4.trans s6) hL, by rw [upd_same, List.map_append]; rfl, ?_⟩
            rw [tk1, ← List.append_assoc]
            have ok : okx xs t = true := by rw [hx0]; rfl
            rw [if_pos ok]
            refine ((hT4.same s6).put (s6 _ _ hL4)).snoc ?_
            rw [upd_ne ne2, upd_same, hx0, Int.zero_add]
            rfl
          · rw [decide_eq_false hx0]
            refine (iteF ?_ : if false = true then _ else _)
            obtain ⟨lst, hl1, hl2⟩ := at_last hx0
            refine ⟨_, rfl, _, rfl, _, rfl, a, _, _, _, rfl, rfl, .inl (.inl (s5 _ _ ha4)), hl2, _, _, rfl, rfl, _, rfl, ite2 (fun h7 => ?_) (fun h7 => ?_)⟩
            · have h7 : lst < (t : Int) := by have := of_decide_eq_true h7; (clear hroom hcl ht hbs3 hLas hj ne0 hu hpow h12 h1 hn; omega)
              refine ⟨_, rfl, .inl ⟨rfl, _, .inl (.inl (s5 _ _ hL4))⟩, _, rfl, _, rfl, (by show 1 ≤ sizeLine; decide), fun e2 he2 => ?_⟩
              have s6 := s5.trans (upd_fresh he2 (o := .tup [.int (0 + (t : Int))]))
              refine ⟨a, e2, _, _, rfl, rfl, .inl (.inl (s6 _ _ ha4)), .inl (.inl upd_same), ?_, fun z => absurd (List.map_eq_nil_iff.mp z) hx0, fun _ z => (by cases z), fun _ _ p hp => ?_⟩
              · rw [List.length_map]
                have : xs.length ≤ j := stg_le n j xs (List.mem_of_getElem? hx)
                show xs.length + 1 ≤ sizeLine
                have : (13 : Nat) ≤ sizeLine := by decide
                (clear h7 hroom hcl ht hbs3 hLas hj ne0 hu hpow h1 hn; omega)
              have s7 := s6.trans (upd_fresh hp (o := .tup (xs.map V.int ++ [.int (0 + (t : Int))])))
              have nep : p ≠ L := fun z => by rw [z] at hp; rw [s6 _ _ hL4] at hp; cases hp
              refine ⟨L, _, _, rfl, rfl, s7 _ _ hL4, by rw [List.length_map]; exact hroom, ?_⟩
              refine ⟨cs ++ [p], _, rfl, same_put (s4.trans s7) hL, by rw [upd_same, List.map_append]; rfl, ?_⟩
              rw [tk1, ← List.append_assoc]
              have ok : okx xs t = true := by unfold okx; rw [hl1]; exact decide_eq_true h7
              rw [if_pos ok]
              refine ((hT4.same s7).put (s7 _ _ hL4)).snoc ?_
              rw [upd_ne nep, upd_same, Int.zero_add, List.map_append]
              rfl
            · have h7 : ¬ lst < (t : Int) := fun z => h7 (decide_eq_true (by (clear hroom hcl ht hbs3 hLas hj ne0 hu hpow h12 h1 hn; omega)))
              refine ⟨cs, _, rfl, s4.trans s5, s5 _ _ hL4, ?_⟩
              have ok : ¬ okx xs t = true := by unfold okx; rw [hl1]; simpa using h7
              rw [tk1, if_neg ok, List.append_nil]
              exact hT4.same s5
        · rintro σ H4 ⟨cs, v6, rfl, s4, hL4, hT4⟩
          refine ⟨cs, _, _, rfl, s4, hL4, ?_⟩
          rw [take_flat _ _ _ hil, hxi]
          have : ((n : Int)).toNat = n := by (clear hbs3 hLas hj ne0 hu hpow h12 h1 hn; omega)
          rw [this] at hT4
          exact hT4
      · rintro σ H3 ⟨bs, v5, v6, rfl, s3, hL3, hT3⟩
        rw [List.length_map, hLas, List.take_length] at hT3
        exact ⟨_, rfl, L, bs, _, _, _, _, rfl, s2.trans s3, hL3, hT3⟩
    · rintro σ H2 ⟨S, as, v3, v4, v5, v6, rfl, s2, hS, hT⟩
      have hsz : ((sz : Int)).toNat = sz := by (clear ne0 hu hpow h12 h1 hn; omega)
      rw [hsz] at hT
      have hlen := hT.len
      have hbound : as.length < sizeLine := small sz (Nat.le_refl _) _ (by rw [hlen]; exact stg_len n sz)
      refine ⟨_, rfl, S, rfl, ⟨_, .inl (.inl hS)⟩, fun D hD => ?_⟩
      refine comps_by as.length (fun i Hi => ∃ bs : List Addr, Same H2 Hi ∧ Hi D = some (.lst (bs.map V.ref)) ∧ TupsH Hi bs (((stg n sz).take i).map List.reverse)) ⟨[], upd_fresh hD, upd_same, .nil⟩ ?_ ?_
      · rintro Hi ⟨bs, s3, hD3, hT3⟩
        rw [hlen, List.take_length] at hT3
        refine ⟨⟨_, s3.seq (.inl (.inl hS)), by rw [List.length_map]; exact Nat.le_refl _⟩, D, bs, _, rfl, .inl (.inl hD3), hT3.at', ?_, fun l cs G hl tg hperm hsort => ?_⟩
        · intro x hx z
          obtain ⟨y, hy, rfl⟩ := List.mem_map.mp hx
          have := stg_pos n sz h1 y hy
          rw [List.reverse_eq_nil_iff.mp z] at this
          simp at this
        have hcl := TupsAt.len tg
        have hbl := hT3.len
        have hTc : TupsH Hi cs G := TupsH.of_zip hcl fun a xs h => hT3.mem (hperm.mem_iff.mp h)
        have hG : G.Perm ((stg n sz).map List.reverse) := by
          have := hperm.map Prod.snd
          rwa [List.map_snd_zip (by (clear hbl hbound hlen hsz ne0 hu hpow h12 h1 hn; omega)), List.map_snd_zip (by (clear hcl hbound hlen hsz ne0 hu hpow h12 h1 hn; omega))] at this
        have hGl : cs.length = as.length := by rw [hcl, hG.length_eq, List.length_map, hlen]
        have s4 : Same Hi (upd Hi l (.lst (cs.map V.ref))) := upd_fresh hl
        refine ⟨l, rfl, ⟨_, .inl (.inl upd_same)⟩, fun D2 hD2 => ?_⟩
        have hD20 : Hi D2 = none := s4.free hD2
        refine comps_by cs.length (fun i Hj => ∃ ds : List Addr, Same (upd Hi l (.lst (cs.map V.ref))) Hj ∧ Hj D2 = some (.lst (ds.map V.ref)) ∧ TupsH Hj ds ((G.take i).map List.reverse)) ⟨[], upd_fresh hD2, upd_same, .nil⟩ ?_ ?_
        · rintro Hj ⟨ds, s5, hD5, hT5⟩
          rw [hcl, List.take_length] at hT5
          refine ⟨⟨_, s5.seq (.inl (.inl upd_same)), by rw [List.length_map]; exact Nat.le_refl _⟩, ?_⟩
          exact k D2 Hj ds G (s2.trans (s3.trans (s4.trans s5))) (s2.free (s3.free hD20)) hD5 hT5 hG hsort
        · rintro i Hj hi ⟨ds, s5, hD5, hT5⟩
          have hil : i < G.length := by (clear hGl hbl hbound hlen hsz ne0 hu hpow h12 h1 hn; omega)
          refine ⟨⟨_, .ref cs[i], s5.seq (.inl (.inl upd_same)), by rw [List.getElem?_map, List.getElem?_eq_getElem hi]; rfl⟩, ?_⟩
          rintro x H' ⟨rfl, hx⟩
          have ex := hx _ (s5.seq (.inl (.inl upd_same)))
          rw [List.getElem?_map, List.getElem?_eq_getElem hi] at ex
          cases ex
          obtain ⟨xs, hx1, hx2⟩ := hTc.at (List.getElem?_eq_getElem hi)
          obtain ⟨_, hx3⟩ := List.getElem?_eq_some_iff.mp hx1
          unfold gName
          refine yes_go ?_
          refine ⟨_, rfl, cs[i], _, rfl, .inl (.inl (s5 _ _ (s4 _ _ hx2))), fun p hp => ?_⟩
          have nep : p ≠ D2 := fun z => by rw [z] at hp; rw [hD5] at hp; cases hp
          refine ⟨_, by rw [upd_ne nep.symm]; exact hD5, ?_, _, by (clear nep hil hGl hbl hcl hbound hlen hsz ne0 hu hpow h12 h1 hn; omega), rfl, hi, ds ++ [p], same_put (s5.trans (upd_fresh hp)) hD2, by rw [upd_same, List.map_append]; rfl, ?_⟩
          · rw [List.length_map, hT5.len, List.length_map, List.length_take]
            (clear nep hil hbl hcl hlen hsz ne0 hu hpow h12 h1 hn; omega)
          · rw [List.take_succ_eq_append_getElem hil, List.map_append]
            refine ((hT5.same (upd_fresh hp)).put (by rw [upd_ne nep.symm]; exact hD5)).snoc ?_
            rw [upd_ne nep, upd_same, hx3, ← List.map_reverse]
      · rintro i Hi hi ⟨bs, s3, hD3, hT3⟩
        have hil : i < (stg n sz).length := by (clear hbound hsz ne0 hu hpow h12 h1 hn; omega)
        refine ⟨⟨_, .ref as[i], s3.seq (.inl (.inl hS)), by rw [List.getElem?_map, List.getElem?_eq_getElem hi]; rfl⟩, ?_⟩
        rintro x H' ⟨rfl, hx⟩
        have ex := hx _ (s3.seq (.inl (.inl hS)))
        rw [List.getElem?_map, List.getElem?_eq_getElem hi] at ex
        cases ex
        obtain ⟨xs, hx1, hx2⟩ := hT.at (List.getElem?_eq_getElem hi)
        obtain ⟨_, hx3⟩ := List.getElem?_eq_some_iff.mp hx1
        unfold gName
        refine yes_go ?_
        refine ⟨_, rfl, as[i], _, rfl, .inl (.inl (s3 _ _ hx2)), fun p hp => ?_⟩
        have nep : p ≠ D := fun z => by rw [z] at hp; rw [hD3] at hp; cases hp
        refine ⟨_, by rw [upd_ne nep.symm]; exact hD3, ?_, _, by (clear nep hil hbound hlen hsz ne0 hu hpow h12 h1 hn; omega), rfl, hi, bs ++ [p], same_put (s3.trans (upd_fresh hp)) hD, by rw [upd_same, List.map_append]; rfl, ?_⟩
        · rw [List.length_map, hT3.len, List.length_map, List.length_take]
          (clear nep hil hlen hsz ne0 hu hpow h12 h1 hn; omega)
        · rw [List.take_succ_eq_append_getElem hil, List.map_append]
          refine ((hT3.same (upd_fresh hp)).put (by rw [upd_ne nep.symm]; exact hD3)).snoc ?_
          rw [upd_ne nep, upd_same, hx3, ← List.map_reverse]
end
end K15

namespace K15
open PySem L2
noncomputable def fI (r : List Nat) : List Int := r.map fun n : Nat => (n : Int)
noncomputable def asI (r : List Nat) : List Int := r.reverse.map fun n : Nat => (n : Int)
theorem lex_tri : ∀ a c : List Int, HT.lexLt a c = false → HT.lexLt c a = false → a = c
  | [], [], _, _ => rfl
  | [], _ :: _, h, _ => by cases h
  | _ :: _, [], _, h => by cases h
  | x :: xs, y :: ys, h1, h2 => by
    rw [HT.lexLt_cons] at h1 h2
    by_cases e : x = y
    · subst e
      rw [if_pos rfl] at h1 h2
      rw [lex_tri xs ys h1 h2]
    · rw [if_neg e] at h1
      rw [if_neg (Ne.symm e)] at h2
      have g1 : ¬ x < y := by simpa using h1
      have g2 : ¬ y < x := by simpa using h2
      omega
theorem lex_num : ∀ {n : Nat} {r q : List Nat}, SH.Fall n r → SH.Fall n q → r.length = q.length → SH.num r < SH.num q → HT.lexLt (fI r) (fI q) = true
  | _, [], [], _, _, _, h => absurd h (by simp)
  | _, [], _ :: _, _, _, hl, _ => by simp at hl
  | _, _ :: _, [], _, _, hl, _ => by simp at hl
  | n, x :: r, y :: q, hr, hq, hl, h => by
    have hl2 : r.length = q.length := by simpa using hl
    have h : SH.C x (r.length + 1) + SH.num r < SH.C y (q.length + 1) + SH.num q := h
    show HT.lexLt ((x : Int) :: fI r) ((y : Int) :: fI q) = true
    rw [HT.lexLt_cons]
    by_cases e : x = y
    · subst e
      rw [if_pos rfl]
      rw [hl2] at h
      exact lex_num hr.2 hq.2 hl2 (by (clear hl hl2; omega))
    · rw [if_neg (by (clear h hl2 hl; omega))]
      have : x < y := by
        rcases Nat.lt_or_gt_of_ne e with z | z
        · exact z
        · exfalso
          have h1 := SH.num_lt hq.2
          have h2 : SH.C (y + 1) (q.length + 1) ≤ SH.C x (q.length + 1) := SH.C_mono _ z
          rw [SH.C_ss] at h2
          rw [hl2] at h
          (clear z e hl2 hl; omega)
      exact decide_eq_true (by (clear e h hl2 hl; omega))
theorem last_asI (r : List Nat) : (asI r).getLast? = r.head?.map fun n : Nat => (n : Int) := by
  unfold asI
  rw [List.getLast?_map, List.getLast?_reverse]
theorem stg_mem (n : Nat) : ∀ (k : Nat) (xs : List Int), xs ∈ stg n k ↔ ∃ r, SH.Fall n r ∧ r.length = k ∧ xs = asI r
  | 0, xs => by
    constructor
    · intro h
      have : xs = [] := by simpa [stg] using h
      subst this
      exact ⟨[], trivial, rfl, rfl⟩
    · rintro ⟨r, _, hl, rfl⟩
      have : r = [] := List.length_eq_zero_iff.mp hl
      subst this
      show asI [] ∈ [[]]
      simp [asI]
  | k + 1, xs => by
    constructor
    · intro h
      obtain ⟨ys, hy, hx⟩ := List.mem_flatMap.mp h
      obtain ⟨t, ht, rfl⟩ := List.mem_map.mp hx
      obtain ⟨r, hr, hl, rfl⟩ := (stg_mem n k ys).mp hy
      obtain ⟨ht1, ht2⟩ := List.mem_filter.mp ht
      have ht1 : t < n := List.mem_range.mp ht1
      refine ⟨t :: r, ⟨ht1, ?_⟩, by rw [List.length_cons, hl], by unfold asI; rw [List.reverse_cons, List.map_append]; rfl⟩
      cases r with
      | nil => trivial
      | cons y r =>
        unfold okx at ht2
        rw [last_asI] at ht2
        have : (y : Int) < (t : Int) := by simpa using ht2
        exact ⟨by (clear hl ht1; omega), hr.2⟩
    · rintro ⟨r, hr, hl, rfl⟩
      cases r with
      | nil => simp at hl
      | cons t r =>
        refine List.mem_flatMap.mpr ⟨asI r, (stg_mem n k _).mpr ⟨r, hr.2.mono (Nat.le_of_lt hr.1), by simpa using hl, rfl⟩, ?_⟩
        refine List.mem_map.mpr ⟨t, List.mem_filter.mpr ⟨List.mem_range.mpr hr.1, ?_⟩, by unfold asI; rw [List.reverse_cons, List.map_append]; rfl⟩
        unfold okx
        rw [last_asI]
        cases r with
        | nil => rfl
        | cons y r => exact decide_eq_true (by have := hr.2.1; show (y : Int) < (t : Int); (clear hl; omega))
theorem ext_nodup (n : Nat) (xs : List Int) : (ext n xs).Nodup := by
  unfold ext
  rw [List.nodup_iff_pairwise_ne, List.pairwise_map]
  refine (List.nodup_iff_pairwise_ne.mp (List.nodup_range.sublist List.filter_sublist)).imp fun {a b} h z => ?_
  have := List.append_cancel_left z
  simp at this
  omega
theorem stg_nodup (n : Nat) : ∀ k, (stg n k).Nodup
  | 0 => by simp [stg]
  | k + 1 => by
    have ih := stg_nodup n k
    show ((stg n k).flatMap (ext n)).Nodup
    generalize stg n k = l at ih
    induction l with
    | nil => simp
    | cons x l ihl =>
      obtain ⟨h1, h2⟩ := List.nodup_cons.mp ih
      rw [List.flatMap_cons]
      refine List.nodup_append.mpr ⟨ext_nodup n x, ihl h2, fun a ha b hb z => ?_⟩
      obtain ⟨y, hy, hb⟩ := List.mem_flatMap.mp hb
      obtain ⟨t, _, rfl⟩ := List.mem_map.mp ha
      obtain ⟨u, _, hu⟩ := List.mem_map.mp hb
      have : x = y := by
        have e : x ++ [(t : Int)] = y ++ [(u : Int)] := by rw [z, hu]
        exact (List.append_inj' e rfl).1
      subst this
      exact h1 hy
noncomputable def inOrder (n k : Nat) : List (List Int) := (List.range (SH.C n k)).map fun m => fI (SH.greedy n k m)
theorem fI_inj {r q : List Nat} (h : fI r = fI q) : r = q := by
  unfold fI at h
  exact (List.map_inj_right (fun a b h => by omega)).mp h
theorem order_nodup (n k : Nat) : (inOrder n k).Nodup := by
  unfold inOrder
  rw [List.nodup_iff_pairwise_ne, List.pairwise_map, List.pairwise_iff_forall_sublist]
  intro a b hab z
  have ha := List.mem_range.mp (hab.subset (by simp : a ∈ [a, b]))
  have hb := List.mem_range.mp (hab.subset (by simp : b ∈ [a, b]))
  have e := fI_inj z
  have h1 := (SH.greedy_ok ha).2
  have h2 := (SH.greedy_ok hb).2
  rw [e, h2] at h1
  have : a < b := by
    have := List.pairwise_iff_forall_sublist.mp (List.pairwise_lt_range (n := SH.C n k)) hab
    exact this
  (clear h2 hb ha; omega)
theorem rev_asI (r : List Nat) : (asI r).reverse = fI r := by
  unfold asI fI
  rw [← List.map_reverse, List.reverse_reverse]
theorem sets_eq {n k : Nat} {G : List (List Int)} (hp : G.Perm ((stg n k).map List.reverse)) (hs : G.Pairwise (fun x y => HT.lexLt y x = false)) : G = inOrder n k := by
  have hpo : ((stg n k).map List.reverse).Perm (inOrder n k) := by
    refine (List.perm_ext_iff_of_nodup ?_ (order_nodup n k)).mpr fun xs => ?_
    · rw [List.nodup_iff_pairwise_ne, List.pairwise_map]
      exact (List.nodup_iff_pairwise_ne.mp (stg_nodup n k)).imp fun {a b} h z => h (List.reverse_inj.mp z)
    · constructor
      · intro h
        obtain ⟨ys, hy, rfl⟩ := List.mem_map.mp h
        obtain ⟨r, hr, hl, rfl⟩ := (stg_mem n k ys).mp hy
        rw [rev_asI]
        exact List.mem_map.mpr ⟨SH.num r, List.mem_range.mpr (by rw [← hl]; exact SH.num_lt hr), by rw [SH.greedy_num hr hl]⟩
      · intro h
        obtain ⟨m, hm, rfl⟩ := List.mem_map.mp h
        have hm := List.mem_range.mp hm
        exact List.mem_map.mpr ⟨asI (SH.greedy n k m), (stg_mem n k _).mpr ⟨_, (SH.greedy_ok hm).1, SH.greedy_len _ _ _, rfl⟩, rev_asI _⟩
  have hso : (inOrder n k).Pairwise (fun x y => HT.lexLt y x = false) := by
    unfold inOrder
    rw [List.pairwise_map, List.pairwise_iff_forall_sublist]
    intro a b hab
    have ha := List.mem_range.mp (hab.subset (by simp : a ∈ [a, b]))
    have hb := List.mem_range.mp (hab.subset (by simp : b ∈ [a, b]))
    have hlt : a < b := List.pairwise_iff_forall_sublist.mp (List.pairwise_lt_range (n := SH.C n k)) hab
    obtain ⟨f1, n1⟩ := SH.greedy_ok ha
    obtain ⟨f2, n2⟩ := SH.greedy_ok hb
    exact Tim.lex_asymm _ _ (lex_num f1 f2 (by rw [SH.greedy_len, SH.greedy_len]) (by rw [n1, n2]; exact hlt))
  exact List.Perm.eq_of_pairwise (fun a b _ _ h1 h2 => lex_tri a b h2 h1) hs hso (hp.trans hpo)
end K15

namespace K15
open PySem L2
noncomputable def natsV (r : List Nat) : List V := r.map fun n : Nat => V.int n
noncomputable def SetsAt (H : Hp) (as : List Addr) (k : Nat) (ms : List Nat) : Prop := Paired (fun a m => H a = some (.tup (natsV (SH.st k m)))) as ms
section
variable {P : Program} {w : World} {K : PySem.W.Frag} {mg : Str → Option Value} {base : Heap}
end
end K15

namespace K15
open PySem L2
structure Tx (mg : Str → Option Value) : Prop where
  msets : ∃ t, mg "MOST_SETS" = some (.int 200 t)
  mthings : ∃ t, mg "MOST_THINGS_IN_A_MEMBER" = some (.int 6 t)
  things : ∃ t, mg "THINGS_OF_FAMILIES" = some (.int 12 t)
noncomputable def famGo (n : Nat) : List (List Int) → List (List Int) → Bool
  | _, [] => true
  | seen, x :: r => if x.length < 1 ∨ 6 < x.length ∨ x.length ≠ n then false else if x ∈ seen ∨ rises 12 (-1) x = false then false else famGo n (seen ++ [x]) r
noncomputable def isFam (F : List (List Int)) : Bool := decide (F.length ≤ 200) && famGo (F.headD []).length [] F
noncomputable def spIF : Sp := fun vs H Q _ => ∃ (f : Addr) (as : List Addr) (F : List (List Int)), vs = [.ref f] ∧ H f = some (.lst (as.map V.ref)) ∧ TupsH H as F ∧ as.length ≤ 100000 ∧ ∀ H2, Same H H2 → Q (.bl (isFam F)) H2
noncomputable def kvs1 (S : List (List Int)) : List (List Key × V) := S.map fun x => (x.map Sum.inl, V.bl true)
theorem inl_inj : ∀ {x y : List Int}, x.map (Sum.inl : Int → Key) = y.map Sum.inl → x = y
  | [], [], _ => rfl
  | [], _ :: _, h => by simp at h
  | _ :: _, [], h => by simp at h
  | a :: x, b :: y, h => by
    rw [List.map_cons, List.map_cons] at h
    injection h with h1 h2
    injection h1 with h3
    rw [h3, inl_inj h2]
theorem kV_inl (x : List Int) : (x.map (Sum.inl : Int → Key)).map kV = x.map V.int := by rw [List.map_map]; rfl
theorem val1 (x : List Int) : ∀ S : List (List Int), (valV (kvs1 S) (x.map Sum.inl)).isSome = decide (x ∈ S)
  | [] => by simp [kvs1, valV_nil]
  | y :: S => by
    have ih := val1 x S
    unfold kvs1 at ih ⊢
    rw [List.map_cons]
    by_cases e : y = x
    · subst e
      rw [valV_pos (p := (y.map Sum.inl, V.bl true)) rfl]
      simp
    · rw [valV_neg (p := (y.map Sum.inl, V.bl true)) (fun z => e (inl_inj z)), ih]
      rw [Bool.eq_iff_iff, decide_eq_true_iff, decide_eq_true_iff, List.mem_cons]
      exact ⟨.inr, fun h => h.elim (fun z => absurd z.symm e) id⟩
theorem put1 (x : List Int) (S : List (List Int)) : putK (kvs1 S) (x.map Sum.inl) (.bl true) = kvs1 (if x ∈ S then S else S ++ [x]) := by
  have h := val1 x S
  unfold putK
  rw [valV_any, h]
  by_cases e : x ∈ S
  · rw [if_pos (decide_eq_true e), if_pos e]
    unfold kvs1
    rw [List.map_map]
    refine List.map_congr_left fun y _ => ?_
    show (if (y.map (Sum.inl : Int → Key)) = x.map Sum.inl then (y.map Sum.inl, V.bl true) else (y.map Sum.inl, V.bl true)) = _
    split <;> rfl
  · rw [if_neg (by simpa using e), if_neg e]
    unfold kvs1
    rw [List.map_append]; rfl
theorem kvs1_len (S : List (List Int)) : (kvs1 S).length = S.length := by simp [kvs1]
section
variable {P : Program} {w : World} {K : PySem.W.Frag} {mg : Str → Option Value} {base : Heap}
theorem sc_is_family : FnScope ["family", "held", "one"] ["family"] (defScope (top 12)) := ⟨rfl, rfl, rfl, by decide +kernel, rfl, by decide +kernel, by decide +kernel⟩
theorem ok_is_family {f : Addr} {fd : FuncData} (F : Fun K "is_family" "is_family" (top 12) f fd) (B : Bt mg) (T : Tx mg) (c_rises_below : Cal P w K mg base "rises_below" 1 (spRb K)) : FnOk P w K mg base CX0 3 f fd ["family"] spIF := by
  have nd := sc_is_family.nd
  refine F.ok sc_is_family (fun vs H Q E h => ?_) (fun cdv A outer s H vs Q E hr h => ?_)
  · obtain ⟨p, as, F, rfl, _⟩ := h
    rfl
  · obtain ⟨p, as, F, rfl, hp, ht, hal, k⟩ := h
    have hu := hr.units
    have hu1 := room1 hr
    have hlen := ht.len
    refine ⟨_, (pss_cons (ps_if (pt_cmpR op_gt (pe_callB call_len_seq rfl B.len PySem.boot_len (pa_cons (pv 0) pa_nil)) (pe_globI rfl T.msets) (nomark _)) (pss_one (ps_ret pe_bl)) pss_nil)
        (pss_cons (ps_set (i := 1) nd rfl (Or.inl rfl) pe_dnewT)
        (pss_cons (ps_for PassesOwn.never rfl (pi_list (pv 0)) (pg_name (i := 2) nd rfl (Or.inl rfl)) (pss_cons (ps_if (PW.pt (pw_or (pt_cmpR op_lt (pe_callB call_len_seq rfl B.len PySem.boot_len (pa_cons (pv 2) pa_nil)) pe_int (nomark _)) (pw_or (pt_cmpR op_gt (pe_callB call_len_seq rfl B.len PySem.boot_len (pa_cons (pv 2) pa_nil)) (pe_globI rfl T.mthings) (nomark _)) (pw_or1 (pt_cmpR op_ne (pe_callB call_len_seq rfl B.len PySem.boot_len (pa_cons (pv 2) pa_nil)) (pe_callB call_len_seq rfl B.len PySem.boot_len (pa_cons (pe_ix (r := rIxL K) ix_list (pv 0) pe_int (fun _ _ => rfl)) pa_nil)) (nomark _)))))) (pss_one (ps_ret pe_bl)) pss_nil)
        (pss_cons (ps_if (PW.pt (pw_or (pt_cmp (pc_din hu1 (pv 2) (pv 1))) (pw_or1 (pt_not (pt_val (pe_cal c_rises_below (hr.mono (by decide)) rfl (pa_cons (pv 2) (pa_cons (pe_globI rfl T.things) pa_nil)))))))) (pss_one (ps_ret pe_bl)) pss_nil)
        (pss_one (ps_dput hu1 (pv 1) (pv 2) pe_bl rfl)))))
        (pss_one (ps_ret pe_bl))))), ?_⟩
    refine ⟨_, rfl, p, _, rfl, .inl (.inl (.inl hp)), _, _, rfl, rfl, _, rfl, ite2 (fun h1 => ?_) (fun h1 => ?_)⟩
    · have h1 : 200 < F.length := by
        have : (200 : Int) < ((as.map V.ref).length : Int) := by simpa using h1
        rw [List.length_map, hlen] at this; (clear hlen hu1 hu hal; omega)
      have := k H (fun _ _ e => e)
      unfold isFam at this
      rw [decide_eq_false (by (clear hlen hu1 hu hal; omega))] at this
      exact this
    have h1 : F.length ≤ 200 := by
      have : ¬ (200 : Int) < ((as.map V.ref).length : Int) := by simpa using h1
      rw [List.length_map, hlen] at this; (clear hlen hu1 hu hal; omega)
    have k : ∀ H2, Same H H2 → Q (.bl (famGo (F.headD []).length [] F)) H2 := fun H2 s2 => by
      have := k H2 s2
      unfold isFam at this
      rw [decide_eq_true h1] at this
      exact this
    refine fun D hD => ?_
    have hpD : p ≠ D := ne_of_none hp hD
    refine ⟨_, rfl, p, rfl, ⟨_, .inl (.inl (by rw [upd_ne hpD]; exact hp))⟩, ?_⟩
    refine for_list (K := K) (a := p) (xs := as.map V.ref) (fun i σ H2 => ∃ v : Option V, σ = [some (.ref p), some (.ref D), v] ∧ H2 = upd H D (.dT (kvs1 (F.take i))) ∧ famGo (F.headD []).length [] F = famGo (F.headD []).length (F.take i) (F.drop i)) ⟨none, rfl, rfl, rfl⟩ (fun i σ H2 _ ⟨_, _, e, _⟩ => .inl (.inl (by rw [e, upd_ne hpD]; exact hp))) ?_ ?_
    · rintro i y σ H2 hy ⟨v, rfl, rfl, e⟩
      rw [List.getElem?_map] at hy
      obtain ⟨a, ha, rfl⟩ := Option.map_eq_some_iff.mp hy
      obtain ⟨xs, hx, hH⟩ := ht.at ha
      have hi : i < F.length := (List.getElem?_eq_some_iff.mp hx).1
      have haD : a ≠ D := ne_of_none hH hD
      have hH2 : (upd H D (.dT (kvs1 (F.take i)))) a = some (.tup (xs.map V.int)) := by rw [upd_ne haD]; exact hH
      have hp2 : (upd H D (.dT (kvs1 (F.take i)))) p = some (.lst (as.map V.ref)) := by rw [upd_ne hpD]; exact hp
      obtain ⟨a0, ha0⟩ : ∃ a0, as[0]? = some a0 := ⟨as[0]'(by (clear haD hpD h1 hu1 hu hal; omega)), List.getElem?_eq_getElem (by (clear haD hpD h1 hu1 hu hal; omega))⟩
      obtain ⟨x0, hx0, hH0⟩ := ht.at ha0
      have ha0D : a0 ≠ D := ne_of_none hH0 hD
      have hx0h : F.headD [] = x0 := by cases F with | nil => simp at hx0 | cons z F => simpa using hx0
      have ed : F.drop i = xs :: F.drop (i + 1) := by
        rw [List.drop_eq_getElem_cons hi]
        have := List.getElem?_eq_getElem hi
        rw [hx] at this
        rw [Option.some.inj this]
      rw [ed, famGo, hx0h] at e
      have sk : Same H (upd H D (.dT (kvs1 (F.take i)))) := upd_fresh hD
      have no : ∀ (hc : xs.length < 1 ∨ 6 < xs.length ∨ xs.length ≠ x0.length), Q (.bl false) (upd H D (.dT (kvs1 (F.take i)))) := fun hc => by
        have := k _ sk
        rw [hx0h, e, if_pos hc] at this
        exact this
      refine ⟨_, rfl, a, _, rfl, .inr (.inl (.inl hH2)), _, _, rfl, rfl, _, rfl, ite2 (fun h2 => iteT ?_) (fun h2 => ?_)⟩
      · exact no (.inl (by have : ((xs.map V.int).length : Int) < 1 := by simpa using h2
                           rw [List.length_map] at this; (clear ha0D haD hi hpD h1 hlen hu1 hu hal; omega)))
      refine ⟨_, rfl, a, _, rfl, .inr (.inl (.inl hH2)), _, _, rfl, rfl, _, rfl, ite2 (fun h3 => iteT ?_) (fun h3 => ?_)⟩
      · exact no (.inr (.inl (by have : (6 : Int) < ((xs.map V.int).length : Int) := by simpa using h3
                                 rw [List.length_map] at this; (clear ha0D haD hi hpD h1 hlen hu1 hu hal; omega))))
      have hat0 : atI (as.map V.ref) (0 : Int) = some (.ref a0) := at_of (i := 0) (by rw [List.getElem?_map, ha0]; rfl)
      refine ⟨_, rfl, a, _, rfl, .inr (.inl (.inl hH2)), _, rfl, p, _, _, _, rfl, rfl, .inl (.inl hp2), hat0, a0, _, rfl, .inr (.inl (.inl (by rw [upd_ne ha0D]; exact hH0))), rfl, _, rfl, ite2 (fun h4 => ?_) (fun h4 => ?_)⟩
      · refine no (.inr (.inr fun z => ?_))
        rw [List.length_map, List.length_map, z] at h4
        simp at h4
      have hn : ¬ (xs.length < 1 ∨ 6 < xs.length ∨ xs.length ≠ x0.length) := by
        have q2 : ¬ ((xs.map V.int).length : Int) < 1 := by simpa using h2
        have q3 : ¬ (6 : Int) < ((xs.map V.int).length : Int) := by simpa using h3
        rw [List.length_map] at q2 q3
        rintro (z | z | z)
        · (clear q3 ha0D haD hi hpD h1 hlen hu1 hu hal; omega)
        · (clear q2 ha0D haD hi hpD h1 hlen hu1 hu hal; omega)
        · refine absurd h4 ?_
          rw [List.length_map, List.length_map]
          simp; (clear q3 q2 ha0D haD hi hpD h1 hlen hu1 hu hal; omega)
      rw [if_neg hn] at e
      have no2 : ∀ (hc : xs ∈ F.take i ∨ rises 12 (-1) xs = false), Q (.bl false) (upd H D (.dT (kvs1 (F.take i)))) := fun hc => by
        have := k _ sk
        rw [hx0h, e, if_pos hc] at this
        exact this
      have hkey : (upd H D (.dT (kvs1 (F.take i)))) a = some (.tup ((xs.map (Sum.inl : Int → Key)).map kV)) := by rw [kV_inl]; exact hH2
      refine ⟨_, rfl, _, rfl, D, _, rfl, DGet.t upd_same hkey, _, rfl, ?_⟩
      rw [val1]
      refine ite2 (fun h5 => iteT ?_) (fun h5 => ?_)
      · exact no2 (.inl (of_decide_eq_true h5))
      refine ⟨_, rfl, a, xs, 12, rfl, .inl (.inl hH2), _, rfl, ?_⟩
      cases hrb : rises 12 (-1) xs with
      | false => exact iteT (no2 (.inr hrb))
      | true =>
        refine iteF ?_
        have h5 : xs ∉ F.take i := fun z => absurd (decide_eq_true z) (by simpa using h5)
        rw [if_neg (by rintro (z | z); exact h5 z; rw [hrb] at z; cases z)] at e
        refine ⟨_, rfl, _, rfl, D, _, rfl, DPut.t upd_same hkey (by rw [kvs1_len, List.length_take]; exact small1000 (by (clear hn ha0D haD hi hpD hlen hu1 hu hal; omega))), some (.ref a), rfl, ?_, ?_⟩
        · rw [put1, if_neg h5, upd_upd, List.take_add_one, hx]; rfl
        · rw [hx0h, e, List.take_add_one, hx]; rfl
    · rintro σ H2 ⟨v, rfl, rfl, e⟩
      have hl : (as.map V.ref).length = F.length := by rw [List.length_map, hlen]
      rw [hl, List.drop_length, famGo] at e
      have := k _ (upd_fresh hD (o := .dT (kvs1 (F.take (as.map V.ref).length))))
      rw [e] at this
      exact this
end
end K15

namespace K15
open PySem L2
noncomputable def cutI (x : List Int) (p : Nat) : List Int := x.take p ++ x.drop (p + 1)
theorem fam_go : ∀ {n : Nat} {F seen : List (List Int)}, famGo n seen F = true → ∀ x ∈ F, x.length = n ∧ 1 ≤ x.length ∧ x.length ≤ 6
  | _, [], _, _, x, hx => nomatch hx
  | n, y :: F, seen, h, x, hx => by
    rw [famGo] at h
    split at h
    · cases h
    · rename_i h1
      split at h
      · cases h
      · rcases List.mem_cons.mp hx with rfl | hx
        · omega
        · exact fam_go h x hx
section
variable {P : Program} {w : World} {K : PySem.W.Frag} {mg : Str → Option Value} {base : Heap}
end
end K15

namespace K15
open PySem L2
noncomputable def stI (k m : Nat) : List Int := (SH.st k m).map fun n : Nat => (n : Int)
theorem inOrder_st {n k : Nat} (hk : 1 ≤ k) : (inOrder n k).map List.reverse = (List.range (SH.C n k)).map (stI k) := by
  unfold inOrder
  rw [List.map_map]
  refine List.map_congr_left fun m hm => ?_
  show (fI (SH.greedy n k m)).reverse = stI k m
  rw [SH.gre_eq hk (List.mem_range.mp hm)]
  unfold fI stI SH.st
  rw [List.map_reverse]
end K15

namespace K15
open PySem L2
theorem fam_go_of {n : Nat} (h1 : 1 ≤ n) (h6 : n ≤ 6) : ∀ {F seen : List (List Int)}, (∀ x ∈ F, x.length = n ∧ rises 12 (-1) x = true) → F.Nodup → (∀ x ∈ F, x ∉ seen) → famGo n seen F = true
  | [], _, _, _, _ => rfl
  | y :: F, seen, h, hn, hs => by
    rw [famGo]
    have hy := h y List.mem_cons_self
    rw [if_neg (by omega), if_neg]
    · refine fam_go_of h1 h6 (fun x hx => h x (List.mem_cons_of_mem _ hx)) (List.nodup_cons.mp hn).2 fun x hx z => ?_
      rcases List.mem_append.mp z with z | z
      · exact hs x (List.mem_cons_of_mem _ hx) z
      · rw [List.mem_singleton.mp z] at hx
        exact (List.nodup_cons.mp hn).1 hx
    · rintro (z | z)
      · exact hs y List.mem_cons_self z
      · rw [hy.2] at z; cases z
theorem fam_of {n : Nat} (h1 : 1 ≤ n) (h6 : n ≤ 6) {F : List (List Int)} (hl : F.length ≤ 200) (h : ∀ x ∈ F, x.length = n ∧ rises 12 (-1) x = true) (hn : F.Nodup) : isFam F = true := by
  unfold isFam
  rw [decide_eq_true hl, Bool.true_and]
  cases F with
  | nil => rfl
  | cons y F =>
    have : ((y :: F).headD []).length = n := (h y List.mem_cons_self).1
    rw [this]
    exact fam_go_of h1 h6 h hn fun _ _ z => nomatch z
theorem st_small {k b m x : Nat} (hk : 1 ≤ k) (h : m < SH.C b k) (hx : x ∈ SH.st k m) : x < b := by
  unfold SH.st at hx
  rw [← SH.gre_eq hk h] at hx
  exact (SH.greedy_ok h).1.mem x (List.mem_reverse.mp hx)
theorem ints_inj : ∀ {xs ys : List Nat}, xs.map (fun n : Nat => (n : Int)) = ys.map (fun n : Nat => (n : Int)) → xs = ys
  | [], [], _ => rfl
  | [], _ :: _, h => by simp at h
  | _ :: _, [], h => by simp at h
  | x :: xs, y :: ys, h => by
    rw [List.map_cons, List.map_cons] at h
    injection h with h1 h2
    rw [ints_inj h2, Int.ofNat.inj h1]
theorem stI_inj {k m m' : Nat} (hk : 1 ≤ k) (h : stI k m = stI k m') : m = m' := by
  have := ints_inj h
  rw [← SH.st_num (m := m) hk, this, SH.st_num hk]
theorem stI_len (k m : Nat) : (stI k m).length = k := by unfold stI; rw [List.length_map, SH.st_len]
end K15

namespace K15
open PySem L2
theorem sub_sets {H : Hp} {as fs rest : List Addr} {k N : Nat} (ht : TupsH H as ((List.range N).map (stI k))) (hp : (fs ++ rest).Perm as) : ∃ ms : List Nat, ms.Nodup ∧ (∀ i ∈ ms, i < N) ∧ ms.length = fs.length ∧ fs.length ≤ N ∧ TupsH H fs (ms.map (stI k)) := by
  have hl : as.length = N := by rw [ht.len]; simp
  have e0 : as = (List.range N).map fun i => as.getD i 0 := by
    refine List.ext_getElem (by simp [hl]) fun i h1 h2 => ?_
    simp [h1]
  have hp2 := hp
  rw [e0] at hp2
  obtain ⟨idx, he, hidx⟩ := Tim.perm_map_inv hp2
  have hat : ∀ i, i < N → H (as.getD i 0) = some (.tup ((stI k i).map V.int)) := fun i hi => by
    obtain ⟨xs, hx, hH⟩ := ht.at (i := i) (a := as.getD i 0) (by rw [List.getD_eq_getElem?_getD, List.getElem?_eq_getElem (by omega)]; rfl)
    rw [List.getElem?_map, List.getElem?_range hi] at hx
    have : stI k i = xs := by simpa using hx
    rw [this]; exact hH
  have hfs : fs = (idx.take fs.length).map fun i => as.getD i 0 := by
    have := congrArg (List.take fs.length) he
    rw [List.take_left, ← List.map_take] at this
    exact this
  have hin : ∀ i ∈ idx.take fs.length, i < N := fun i hi => List.mem_range.mp (hidx.mem_iff.mp (List.mem_of_mem_take hi))
  have hil : idx.length = (fs ++ rest).length := by rw [he]; simp
  refine ⟨idx.take fs.length, (hidx.nodup_iff.mpr List.nodup_range).sublist (List.take_sublist _ _), hin, by rw [List.length_take, hil, List.length_append]; omega, by have := hp.length_eq; rw [List.length_append] at this; omega, ?_⟩
  have gen : ∀ l : List Nat, (∀ i ∈ l, i < N) → TupsH H (l.map fun i => as.getD i 0) (l.map (stI k)) := by
    intro l
    induction l with
    | nil => intro _; exact .nil
    | cons i l ih => intro h; exact .cons (hat i (h i (by simp))) (ih fun j hj => h j (List.mem_cons_of_mem _ hj))
  have := gen _ hin
  rw [← hfs] at this
  exact this
theorem C_small : ∀ {a b : Nat}, SH.C a b ≤ 2 ^ a
  | _, 0 => by rw [SH.C_zero]; exact Nat.one_le_two_pow
  | 0, b + 1 => by rw [SH.C_zs]; exact Nat.zero_le _
  | a + 1, b + 1 => by
    rw [SH.C_ss, Nat.pow_succ]
    have h1 := C_small (a := a) (b := b)
    have h2 := C_small (a := a) (b := b + 1)
    omega
theorem C_4096 {n k : Nat} (h : n ≤ 12) : SH.C n k ≤ 4096 := Nat.le_trans (SH.C_mono k h) (Nat.le_trans C_small (by decide))
end K15

namespace K15
open PySem L2
theorem pickq (x : Int) : ∃ q : Int, atI [V.int 4, V.int 1, V.int 7, V.int 2] (x % 4) = some (.int q) := by
  obtain ⟨j, hj, hj4⟩ := mod_nat x 4 (by decide)
  have hj : x % 4 = (j : Int) := hj
  rw [hj]
  match j, hj4 with
  | 0, _ => exact ⟨4, rfl⟩
  | 1, _ => exact ⟨1, rfl⟩
  | 2, _ => exact ⟨7, rfl⟩
  | 3, _ => exact ⟨2, rfl⟩
theorem cut_to (gs : List Addr) (c : Nat) : cutV (gs.map V.ref) none (some (c : Int)) = (gs.take c).map V.ref := by
  unfold cutV
  rw [HT.sIx_none, HT.sIx_nat, List.length_map, List.drop_zero, Nat.sub_zero, ← List.map_take]
  congr 1
  rcases Nat.le_total c gs.length with z | z
  · rw [Nat.min_eq_left z]
  · rw [Nat.min_eq_right z, List.take_of_length_le (Nat.le_refl _), List.take_of_length_le z]
theorem cut_from (gs : List Addr) {c : Nat} (h : c ≤ gs.length) : cutV (gs.map V.ref) (some (c : Int)) none = (gs.drop c).map V.ref := by
  unfold cutV
  rw [HT.sIx_none, HT.sIx_nat, List.length_map, Nat.min_eq_left h, ← List.map_drop, ← List.map_take, List.take_of_length_le (by rw [List.length_drop]; exact Nat.le_refl _)]
noncomputable def spFam (K : PySem.W.Frag) : Sp := fun vs H Q _ => ∃ (p S : Addr) (ns : List Int) (st : Nat) (way : Int) (as : List Addr), vs = [.ref p, .int st, .ref S, .int way] ∧ SqL K H p (ns.map V.int) ∧ H S = some (.lst (as.map V.ref)) ∧ as.length ≤ 100000 ∧ st ≤ 1000 ∧
  ∀ l H2 (fs gs : List Addr), Same H H2 → H l = none → H2 l = some (.lst (fs.map V.ref)) → fs.Perm gs → gs.Sublist as → fs.length ≤ 200 → Q (.ref l) H2
section
variable {P : Program} {w : World} {K : PySem.W.Frag} {mg : Str → Option Value} {base : Heap}
theorem sc__law_family_by : FnScope ["script", "start", "sets", "way", "family", "k", "cell", "turn", "cut"] ["script", "start", "sets", "way"] (defScope (top 20)) := ⟨rfl, rfl, rfl, by decide +kernel, rfl, by decide +kernel, by decide +kernel⟩
set_option maxHeartbeats 4000000 in
theorem ok__law_family_by {f : Addr} {fd : FuncData} (F : Fun K "_law_family_by" "_law_family_by" (top 20) f fd) (B : Bt mg) (c__law_cell_at : Cal P w K mg base "_law_cell_at" 1 (spCell K)) : FnOk P w K mg base CX0 4 f fd ["script", "start", "sets", "way"] (spFam K) := by
  have nd := sc__law_family_by.nd
  refine F.ok sc__law_family_by (fun vs H Q E h => ?_) (fun cdv A outer s H vs Q E hr h => ?_)
  · obtain ⟨p, S, ns, st, way, as, rfl, _⟩ := h
    rfl
  · obtain ⟨p, S, ns, st, way, as, rfl, hp, hS, has, hst, k⟩ := h
    have hasz : as.length < sizeLine := Nat.lt_of_le_of_lt has (by decide)
    obtain ⟨qv, hqv⟩ := pickq way
    refine ⟨_, (pss_cons (ps_set (i := 4) nd rfl (Or.inl rfl) (pe_lst pa_nil))
        (pss_cons (ps_for PassesOwn.never rfl (pi_range1 rfl B.range (pa_cons (pe_callB call_len_seq rfl B.len PySem.boot_len (pa_cons (pv 2) pa_nil)) pa_nil)) (pg_name (i := 5) nd rfl (Or.inl rfl)) (pss_cons (ps_set (i := 6) nd rfl (Or.inl rfl) (pe_cal c__law_cell_at (hr.mono (by decide)) rfl (pa_cons (pv 0) (pa_cons (pe_op op_add (pv 1) (pe_op op_fdiv (pv 5) pe_int)) pa_nil))))
        (pss_cons (ps_if (pt_cmpR op_gt (pe_op op_mod (pe_op op_fdiv (pv 3) pe_int) pe_int) pe_int (nomark _)) (pss_cons (ps_set (i := 6) nd rfl (Or.inl rfl) (pe_op op_mod (pe_op op_add (pe_op op_add (pv 6) (pe_op op_mul pe_int (pv 5))) pe_int) pe_int))
        (pss_one (ps_set (i := 6) nd rfl (Or.inl rfl) (pe_op op_fdiv (pe_op op_mod (pe_op op_mul (pe_op op_mod (pe_op op_mul (pv 6) (pv 6)) pe_int) pe_int) pe_int) pe_int)))) (pss_one (ps_for PassesOwn.never rfl (pi_range1 rfl B.range (pa_cons (pe_op op_mod (pv 5) pe_int) pa_nil)) (pg_name (i := 7) nd rfl (Or.inl rfl)) (pss_one (ps_set (i := 6) nd rfl (Or.inl rfl) (pe_op op_fdiv (pv 6) pe_int))))))
        (pss_one (ps_if (pt_cmpR op_lt (pe_op op_mod (pv 6) pe_int) (pe_ix (r := rIxL K) ix_list (pe_lst (pa_cons pe_int (pa_cons pe_int (pa_cons pe_int (pa_cons pe_int pa_nil))))) (pe_op op_mod (pv 3) pe_int) (fun _ _ => rfl)) (nomark _)) (pss_one (ps_expr (pe_bm PySem.F.plainAttrs_list PySem.F.slot_list_append PySem.F.type_list_append mt_append (pv 4) (pa_cons (pe_ix (r := rIxL K) ix_list (pv 2) (pv 5) (fun _ _ => rfl)) pa_nil)))) pss_nil)))))
        (pss_cons (ps_set (i := 4) nd rfl (Or.inl rfl) (pe_slice (r := rSlL K) sl_list (pv 4) po_none (po_some pe_int)))
        (pss_cons (ps_set (i := 8) nd rfl (Or.inl rfl) (pe_op op_mod (pe_op op_fdiv (pv 3) pe_int) (pe_op op_add (pe_callB call_len_seq rfl B.len PySem.boot_len (pa_cons (pv 4) pa_nil)) pe_int)))
        (pss_cons (ps_set (i := 4) nd rfl (Or.inl rfl) (pe_op op_cat (pe_slice (r := rSlL K) sl_list (pv 4) (po_some (pv 8)) po_none) (pe_slice (r := rSlL K) sl_list (pv 4) po_none (po_some (pv 8)))))
        (pss_cons (ps_if (pt_cmpR op_eq (pe_op op_mod (pe_op op_fdiv (pv 3) pe_int) pe_int) pe_int (nomark _)) (pss_one (ps_expr (pe_bm0 PySem.F.plainAttrs_list PySem.F.slot_list_reverse PySem.F.type_list_reverse mt_reverse (pv 4)))) pss_nil)
        (pss_one (ps_ret (pv 4))))))))), ?_⟩
    refine ⟨Nat.zero_le _, fun l0 hl0 => ?_⟩
    have hml : (as.map V.ref).length = as.length := List.length_map ..
    refine ⟨_, rfl, S, _, rfl, .inl (.inl (.inl (upd_fresh hl0 _ _ hS))), _, rfl, by rw [hml]; (clear hml hasz hst has; omega), by rw [hml]; (clear hml hasz hst; omega), ?_⟩
    refine for_range (fun i σ H2 => ∃ (gs : List Addr) (v5 v6 v7 : Option V), σ = [some (.ref p), some (.int st), some (.ref S), some (.int way), some (.ref l0), v5, v6, v7, none] ∧ Same H H2 ∧ H2 l0 = some (.lst (gs.map V.ref)) ∧ gs.Sublist (as.take i))
      ⟨[], none, none, none, rfl, upd_fresh hl0, upd_same, List.nil_sublist _⟩ ?_ ?_
    · rintro i σ H2 hi ⟨gs, v5, v6, v7, rfl, s2, hl2, hsub⟩
      have hi : i < as.length := by rw [hml] at hi; (clear hml hasz hst has; omega)
      have hgl : gs.length < sizeLine := by
        have := hsub.length_le
        rw [List.length_take] at this
        (clear hi hml hst has; omega)
      have e1 : (st : Int) + (0 + (i : Int)) / 16 = ((st + i / 16 : Nat) : Int) := by (clear hgl hi hml hasz hst has; omega)
      refine ⟨_, rfl, _, rfl, _, rfl, _, _, rfl, rfl, ⟨by (clear e1 hgl hi hml hasz hst has; omega), by (clear e1 hgl hi hml hasz hst has; omega)⟩, _, _, rfl, rfl, p, ns, st + i / 16, (by rw [← e1]; rfl), s2.seq hp, ?_⟩
      refine ⟨_, rfl, _, _, rfl, rfl, ⟨by (clear e1 hgl hi hml hasz hst has; omega), by (clear e1 hgl hi hml hasz hst has; omega)⟩, _, _, rfl, rfl, (by show (0 : Int) < 4; decide), _, _, rfl, rfl, _, rfl, ite2 (fun _ => ?_) (fun _ => ?_)⟩
      · refine ⟨_, rfl, _, rfl, _, _, rfl, rfl, .inl ⟨by (clear e1 hgl hi hml hasz hst has; omega), by (clear e1 hgl hi hml hasz hst has; omega)⟩, _, _, rfl, rfl, _, _, rfl, rfl, _, _, rfl, rfl, (by show (0 : Int) < 2147483647; decide), ?_⟩
        generalize hc : (ns.getD (st + i / 16) 0 + 7919 * (0 + (i : Int)) + 101) % 2147483647 = c2
        have c20 : 0 ≤ c2 ∧ c2 < 2147483647 := ⟨by rw [← hc]; exact Int.emod_nonneg _ (by decide), by rw [← hc]; exact Int.emod_lt_of_pos _ (by decide)⟩
        refine ⟨_, rfl, _, rfl, _, _, rfl, rfl, .inl ⟨by rw [hc]; (clear c20 e1 hgl hi hml hasz hst has; omega), by rw [hc]; (clear c20 e1 hgl hi hml hasz hst has; omega)⟩, _, _, rfl, rfl, (by show (0 : Int) < 2147483647; decide), _, _, rfl, rfl, .inr ⟨by (clear c20 hc e1 hgl hi hml hasz hst has; omega), by (clear c20 hc e1 hgl hi hml hasz hst has; omega)⟩, _, _, rfl, rfl, (by show (0 : Int) < 2147483647; decide), _, _, rfl, rfl, ⟨by (clear c20 hc e1 hgl hi hml hasz hst has; omega), by (clear c20 hc e1 hgl hi hml hasz hst has; omega)⟩, ?_⟩
        refine ⟨_, rfl, _, _, rfl, rfl, (by show (0 : Int) < 8; decide), (by show 4 ≤ sizeLine; decide), fun m2 hm2 => ?_⟩
        have s6 : Same H2 (upd H2 m2 (.lst [.int 4, .int 1, .int 7, .int 2])) := upd_fresh hm2
        refine ⟨_, rfl, _, _, rfl, rfl, (by show (0 : Int) < 4; decide), m2, _, _, .int qv, rfl, rfl, .inl (.inl upd_same), hqv, _, _, rfl, rfl, _, rfl, ite2 (fun _ => ?_) (fun _ => ?_)⟩
        · refine ⟨_, rfl, .inl ⟨rfl, _, .inl (.inl (s6 _ _ hl2))⟩, _, rfl, _, rfl, S, _, _, .ref as[i], rfl, rfl, .inl (.inl (s6 _ _ (s2 _ _ hS))), ?_, l0, _, _, rfl, rfl, s6 _ _ hl2, by rw [List.length_map]; exact hgl, ?_⟩
          · rw [Int.zero_add]; refine at_of ?_; rw [List.getElem?_map, List.getElem?_eq_getElem hi]; rfl
          · refine ⟨gs ++ [as[i]], _, _, _, rfl, same_put (s2.trans s6) hl0, by rw [upd_same, List.map_append]; rfl, ?_⟩
            rw [List.take_succ_eq_append_getElem hi]
            exact hsub.append (List.Sublist.refl _)
        · refine ⟨gs, _, _, _, rfl, s2.trans s6, s6 _ _ hl2, ?_⟩
          rw [List.take_succ_eq_append_getElem hi]
          exact hsub.trans (List.sublist_append_left _ _)
      · refine ⟨_, rfl, _, _, rfl, rfl, (by show (0 : Int) < 16; decide), _, rfl, ?_, ?_, ?_⟩
        · have := Int.emod_nonneg (0 + (i : Int)) (show (16 : Int) ≠ 0 by decide); (clear this e1 hgl hi hml hasz hst has; omega)
        · have := Int.emod_lt_of_pos (0 + (i : Int)) (show (0 : Int) < 16 by decide); (clear this e1 hgl hi hml hasz hst has; omega)
        refine for_range (fun _ σ H3 => ∃ (c : Int) (v7 : Option V), σ = [some (.ref p), some (.int st), some (.ref S), some (.int way), some (.ref l0), some (.int (0 + (i : Int))), some (.int c), v7, none] ∧ H3 = H2) ⟨_, v7, rfl, rfl⟩ ?_ ?_
        · rintro j σ H3 hj ⟨c, v7, rfl, rfl⟩
          exact ⟨_, rfl, _, _, rfl, rfl, ⟨by (clear hj e1 hgl hi hml hasz hst has; omega), by (clear hj e1 hgl hi hml hasz hst has; omega)⟩, _, _, rfl, rfl⟩
        · rintro σ H3 ⟨c, v7, rfl, rfl⟩
          refine ⟨_, rfl, _, _, rfl, rfl, (by show (0 : Int) < 8; decide), (by show 4 ≤ sizeLine; decide), fun m2 hm2 => ?_⟩
          have s6 : Same H3 (upd H3 m2 (.lst [.int 4, .int 1, .int 7, .int 2])) := upd_fresh hm2
          refine ⟨_, rfl, _, _, rfl, rfl, (by show (0 : Int) < 4; decide), m2, _, _, .int qv, rfl, rfl, .inl (.inl upd_same), hqv, _, _, rfl, rfl, _, rfl, ite2 (fun _ => ?_) (fun _ => ?_)⟩
          · refine ⟨_, rfl, .inl ⟨rfl, _, .inl (.inl (s6 _ _ hl2))⟩, _, rfl, _, rfl, S, _, _, .ref as[i], rfl, rfl, .inl (.inl (s6 _ _ (s2 _ _ hS))), ?_, l0, _, _, rfl, rfl, s6 _ _ hl2, by rw [List.length_map]; exact hgl, ?_⟩
            · rw [Int.zero_add]; refine at_of ?_; rw [List.getElem?_map, List.getElem?_eq_getElem hi]; rfl
            · refine ⟨gs ++ [as[i]], _, _, _, rfl, same_put (s2.trans s6) hl0, by rw [upd_same, List.map_append]; rfl, ?_⟩
              rw [List.take_succ_eq_append_getElem hi]
              exact hsub.append (List.Sublist.refl _)
          · refine ⟨gs, _, _, _, rfl, s2.trans s6, s6 _ _ hl2, ?_⟩
            rw [List.take_succ_eq_append_getElem hi]
            exact hsub.trans (List.sublist_append_left _ _)
    · rintro σ H2 ⟨gs, v5, v6, v7, rfl, s2, hl2, hsub⟩
      have hgs : gs.Sublist as := hsub.trans (List.take_sublist _ _)
      refine ⟨_, rfl, (200 : Int), rfl, l0, _, rfl, .inl (.inl hl2), fun l1 hl1 => ?_⟩
      have e200 : cutV (gs.map V.ref) none (some (200 : Int)) = (gs.take 200).map V.ref := cut_to gs 200
      rw [e200]
      have hsub2 : (gs.take 200).Sublist as := (List.take_sublist _ _).trans hgs
      have hle2 : (gs.take 200).length ≤ 200 := by rw [List.length_take]; (clear hml hasz hst has; omega)
      generalize gs.take 200 = g2 at hsub2 hle2
      have s3 : Same H2 (upd H2 l1 (.lst (g2.map V.ref))) := upd_fresh hl1
      have hlm : (g2.map V.ref).length = g2.length := List.length_map ..
      obtain ⟨c, hc, hcl⟩ := mod_nat (way / 4) (g2.length + 1) (by (clear hlm hle2 hml hasz hst has; omega))
      have hc2 : way / 4 % (((g2.map V.ref).length : Int) + 1) = (c : Int) := by rw [hlm]; exact hc
      refine ⟨_, rfl, _, _, rfl, rfl, ⟨by (clear hc2 hcl hc hlm hle2 hml hasz hst has; omega), by (clear hc2 hcl hc hlm hle2 hml hasz hst has; omega)⟩, _, rfl, l1, _, rfl, .inl (.inl (.inl upd_same)), _, _, rfl, rfl, _, _, rfl, rfl, (by rw [hlm]; show (0 : Int) < (g2.length : Nat) + 1; (clear hc2 hcl hc hlm hle2 hml hasz hst has; omega)), ?_⟩
      refine ⟨_, rfl, _, rfl, _, rfl, l1, _, rfl, .inl (.inl upd_same), fun l2 hl22 => ?_⟩
      have s4 := s3.trans (upd_fresh hl22 (o := .lst (cutV (g2.map V.ref) (some (way / 4 % (((g2.map V.ref).length : Int) + 1))) none)))
      have n12 : l1 ≠ l2 := fun z => by rw [← z, upd_same] at hl22; cases hl22
      refine ⟨_, rfl, _, rfl, _, rfl, l1, _, rfl, .inl (.inl (by rw [upd_ne n12, upd_same])), fun l3 hl33 => ?_⟩
      have n23 : l2 ≠ l3 := fun z => by rw [← z, upd_same] at hl33; cases hl33
      have s5 := s4.trans (upd_fresh hl33 (o := .lst (cutV (g2.map V.ref) none (some (way / 4 % (((g2.map V.ref).length : Int) + 1))))))
      have k1 : cutV (g2.map V.ref) (some (way / 4 % (((g2.map V.ref).length : Int) + 1))) none = (g2.drop c).map V.ref := by rw [hc2]; exact cut_from g2 (by (clear n23 n12 hc2 hc hlm hle2 hml hasz hst has; omega))
      have k2 : cutV (g2.map V.ref) none (some (way / 4 % (((g2.map V.ref).length : Int) + 1))) = (g2.take c).map V.ref := by rw [hc2]; exact cut_to g2 c
      refine ⟨l2, l3, (g2.drop c).map V.ref, (g2.take c).map V.ref, rfl, rfl, (by rw [upd_ne n23, upd_same, k1]), (by rw [upd_same, k2]), ?_, fun l4 hl4 => ?_⟩
      · rw [List.length_map, List.length_map, List.length_drop, List.length_take]
        have : (200 : Nat) ≤ sizeLine := by decide
        (clear n23 n12 hc2 hcl hc hlm hml hasz hst has; omega)
      have hper : (g2.drop c ++ g2.take c).Perm g2 := (List.perm_append_comm).trans (by rw [List.take_append_drop])
      have hll : (g2.drop c ++ g2.take c).length ≤ 200 := by rw [hper.length_eq]; exact hle2
      have h4 : H l4 = none := (s2.trans s5).free hl4
      refine ⟨_, rfl, _, _, rfl, rfl, ⟨by (clear hll n23 n12 hc2 hcl hc hlm hle2 hml hasz hst has; omega), by (clear hll n23 n12 hc2 hcl hc hlm hle2 hml hasz hst has; omega)⟩, _, _, rfl, rfl, (by show (0 : Int) < 2; decide), rfl, _, rfl, ite2 (fun _ => ?_) (fun _ => ?_)⟩
      · refine ⟨_, rfl, .inl ⟨rfl, _, .inl (.inl upd_same)⟩, l4, _, rfl, rfl, upd_same, ?_⟩
        rw [upd_upd]
        refine ⟨_, rfl, k l4 _ (g2.drop c ++ g2.take c).reverse g2 ((s2.trans s5).trans (upd_fresh hl4)) h4 (by rw [upd_same, ← List.map_append, ← List.map_reverse]) ((List.reverse_perm _).trans hper) hsub2 (by rw [List.length_reverse]; exact hll)⟩
      · exact ⟨_, rfl, k l4 _ (g2.drop c ++ g2.take c) g2 ((s2.trans s5).trans (upd_fresh hl4)) h4 (by rw [upd_same, ← List.map_append]) hper hsub2 hll⟩
end
end K15

namespace K15
open PySem L2
noncomputable def spSz (K : PySem.W.Frag) : Sp := fun vs H Q _ => ∃ (p : Addr) (ns : List Int), vs = [.ref p] ∧ SqL K H p (ns.map V.int) ∧ ∀ t H2 (n sz : Nat), Same H H2 → H t = none → H2 t = some (.tup [.int n, .int sz]) → 1 ≤ n → n ≤ 12 → 1 ≤ sz → sz ≤ 6 → sz ≤ n → n ^ sz ≤ 10000000 → (n ≤ 9 ∨ sz ≤ 3) → Q (.ref t) H2
theorem pow_small {n sz : Nat} (h : n ≤ 9) (h2 : sz ≤ 6) : n ^ sz ≤ 10000000 := by
  refine Nat.le_trans (Nat.pow_le_pow_left h sz) (Nat.le_trans (Nat.pow_le_pow_right (by decide) h2) (by decide))
section
variable {P : Program} {w : World} {K : PySem.W.Frag} {mg : Str → Option Value} {base : Heap}
theorem sc__law_size_of : FnScope ["script", "head", "things"] ["script"] (defScope (top 21)) := ⟨rfl, rfl, rfl, by decide +kernel, rfl, by decide +kernel, by decide +kernel⟩
theorem ok__law_size_of {f : Addr} {fd : FuncData} (F : Fun K "_law_size_of" "_law_size_of" (top 21) f fd) (B : Bt mg) (c__law_cell_at : Cal P w K mg base "_law_cell_at" 1 (spCell K)) : FnOk P w K mg base CX0 4 f fd ["script"] (spSz K) := by
  have nd := sc__law_size_of.nd
  refine F.ok sc__law_size_of (fun vs H Q E h => ?_) (fun cdv A outer s H vs Q E hr h => ?_)
  · obtain ⟨p, ns, rfl, _⟩ := h
    rfl
  · obtain ⟨p, ns, rfl, hp, k⟩ := h
    refine ⟨_, (pss_cons (ps_set (i := 1) nd rfl (Or.inl rfl) (pe_cal c__law_cell_at (hr.mono (by decide)) rfl (pa_cons (pv 0) (pa_cons pe_int pa_nil))))
        (pss_cons (ps_if (pt_cmpR op_eq (pe_op op_mod (pe_op op_fdiv (pv 1) pe_int) pe_int) pe_int (nomark _)) (pss_one (ps_ret (pe_tup (pa_cons pe_int (pa_cons (pe_op op_add pe_int (pe_op op_mod (pv 1) pe_int)) pa_nil))))) pss_nil)
        (pss_cons (ps_set (i := 2) nd rfl (Or.inl rfl) (pe_op op_add pe_int (pe_op op_mod (pv 1) pe_int)))
        (pss_one (ps_ret (pe_tup (pa_cons (pv 2) (pa_cons (pe_op op_add pe_int (pe_op op_mod (pe_op op_fdiv (pv 1) pe_int) (pe_callB (call_min2 rfl) rfl B.min b_min (pa_cons pe_int (pa_cons (pv 2) pa_nil))))) pa_nil)))))))), ?_⟩
    refine ⟨_, rfl, p, ns, 0, rfl, hp, ?_⟩
    generalize hh : ns.getD 0 0 = hd
    refine ⟨_, rfl, _, _, rfl, rfl, ⟨by (clear hh; omega), by (clear hh; omega)⟩, _, _, rfl, rfl, (by show (0 : Int) < 8; decide), rfl, _, rfl, ite2 (fun _ => ?_) (fun _ => ?_)⟩
    · obtain ⟨m, hm, hm2⟩ := mod_nat hd 2 (by decide)
      refine ⟨_, rfl, _, _, rfl, rfl, (by show (0 : Int) < 2; decide), _, _, rfl, rfl, (by show 2 ≤ sizeLine; decide), fun t ht => ?_⟩
      refine k t _ 12 (2 + m) (upd_fresh ht) ht ?_ (by (clear hm2 hm hh; omega)) (by (clear hm2 hm hh; omega)) (by (clear hm2 hm hh; omega)) (by (clear hm2 hh; omega)) (by (clear hm2 hh; omega)) ?_ (.inr (by (clear hm2 hh; omega)))
      · rw [upd_same]
        have e : (2 : Int) + hd % 2 = ((2 + m : Nat) : Int) := by have : hd % 2 = (m : Int) := hm; (clear this hm2 hh; omega)
        show some (HO.tup [.int 12, .int (2 + hd % 2)]) = _
        rw [e]
        rfl
      · match m, hm2 with
        | 0, _ => decide
        | 1, _ => decide
    · obtain ⟨m, hm, hm9⟩ := mod_nat hd 9 (by decide)
      have hm : hd % 9 = (m : Int) := hm
      have e1 : (1 : Int) + hd % 9 = ((1 + m : Nat) : Int) := by (clear hm hm9 hh; omega)
      have e2 : (if (1 : Int) + hd % 9 < 6 then 1 + hd % 9 else 6) = ((min 6 (1 + m) : Nat) : Int) := by rw [e1]; split <;> (clear e1 hm hm9 hh; omega)
      obtain ⟨z, hz, hz2⟩ := mod_nat (hd / 9) (min 6 (1 + m)) (by (clear e2 e1 hm hm9 hh; omega))
      refine ⟨_, rfl, _, _, rfl, rfl, (by show (0 : Int) < 9; decide), _, _, rfl, rfl, ?_⟩
      refine ⟨_, rfl, _, rfl, _, _, rfl, rfl, ⟨by (clear hz2 hz e2 e1 hm hm9 hh; omega), by (clear hz2 hz e2 e1 hm hm9 hh; omega)⟩, _, rfl, _, _, rfl, _, _, rfl, rfl, ?_, _, _, rfl, rfl, (by show 2 ≤ sizeLine; decide), fun t ht => ?_⟩
      · show (0 : Int) < (if (1 : Int) + hd % 9 < 6 then 1 + hd % 9 else 6)
        rw [e2]; (clear hz2 hz e2 e1 hm hm9 hh; omega)
      refine k t _ (1 + m) (1 + z) (upd_fresh ht) ht ?_ (by (clear hz2 hz e2 e1 hm hm9 hh; omega)) (by (clear hz2 hz e2 e1 hm hm9 hh; omega)) (by (clear hz2 hz e2 e1 hm hm9 hh; omega)) (by (clear hz e2 e1 hm hm9 hh; omega)) (by (clear hz e2 e1 hm hm9 hh; omega)) (pow_small (by (clear hz2 hz e2 e1 hm hm9 hh; omega)) (by (clear hz e2 e1 hm hm9 hh; omega))) (.inl (by (clear hz2 hz e2 e1 hm hm9 hh; omega)))
      rw [upd_same]
      show some (HO.tup [.int (1 + hd % 9), .int (1 + hd / 9 % (if (1 : Int) + hd % 9 < 6 then 1 + hd % 9 else 6))]) = _
      rw [e2, hz, e1, show (1 : Int) + (z : Int) = ((1 + z : Nat) : Int) by (clear hz2 hz e2 e1 hm hm9 hh; omega)]
end
end K15

namespace K15
open PySem L2
noncomputable def spIS : Sp := fun vs H Q _ => ∃ (f d : Addr) (as bs : List Addr) (F G : List (List Int)), vs = [.ref f, .ref d] ∧ H f = some (.lst (as.map V.ref)) ∧ H d = some (.lst (bs.map V.ref)) ∧ TupsH H as F ∧ TupsH H bs G ∧ Q (.bl (decide (F = G))) H
noncomputable def dI (xs : List Int) : Dt := .t (xs.map Dt.i)
theorem deqs_t : ∀ F G : List (List Int), deqs (F.map dI) (G.map dI) = decide (F = G)
  | [], [] => by simp [deqs]
  | [], _ :: _ => by simp [deqs]
  | _ :: _, [] => by simp [deqs]
  | x :: xs, y :: ys => by
    rw [List.map_cons, List.map_cons, deqs, deqs_t xs ys, dI, dI, deq, deqs_i]
    rw [Bool.eq_iff_iff]
    simp
theorem likes_t : ∀ F G : List (List Int), likes (F.map dI) (G.map dI)
  | [], [] => trivial
  | [], _ :: _ => trivial
  | _ :: _, [] => trivial
  | x :: xs, y :: ys => ⟨likes_i x y, likes_t xs ys⟩
theorem deps_t : ∀ F : List (List Int), deps (F.map dI) ≤ 1
  | [] => Nat.zero_le _
  | x :: xs => by
    rw [List.map_cons, deps, dI, dep, deps_i]
    exact Nat.max_le.mpr ⟨Nat.le_refl _, deps_t xs⟩
theorem TupsH.atDs {K : PySem.W.Frag} {H : Hp} {as : List Addr} {F : List (List Int)} (h : TupsH H as F) : AtDs K H (as.map V.ref) (F.map dI) := by
  induction h with
  | nil => trivial
  | cons r t ih => exact ⟨⟨_, _, rfl, .inl (.inl r), atDs_i _⟩, ih⟩
section
variable {P : Program} {w : World} {K : PySem.W.Frag} {mg : Str → Option Value} {base : Heap}
theorem sc__law_is_sets : FnScope ["found", "due", "one", "thing"] ["found", "due"] (defScope (top 22)) := ⟨rfl, rfl, rfl, by decide +kernel, rfl, by decide +kernel, by decide +kernel⟩
theorem ok__law_is_sets {f : Addr} {fd : FuncData} (F : Fun K "_law_is_sets" "_law_is_sets" (top 22) f fd) (B : Bt mg) (c__law_whole : Cal P w K mg base "_law_whole" 1 spWh) : FnOk P w K mg base CX0 4 f fd ["found", "due"] spIS := by
  have nd := sc__law_is_sets.nd
  refine F.ok sc__law_is_sets (fun vs H Q E h => ?_) (fun cdv A outer s H vs Q E hr h => ?_)
  · obtain ⟨f, d, as, bs, F, G, rfl, _⟩ := h
    rfl
  · obtain ⟨f, d, as, bs, F, G, rfl, hf, hd, tf, tg, k⟩ := h
    have hu := hr.units
    refine ⟨_, (pss_cons (ps_if (PW.pt (pw_or (pt_not (pt_val (pe_isB rfl B.isinstance rfl B.list b_list (pv 0)))) (pw_or1 (pt_cmpR op_ne (pe_callB call_len_seq rfl B.len PySem.boot_len (pa_cons (pv 0) pa_nil)) (pe_callB call_len_seq rfl B.len PySem.boot_len (pa_cons (pv 1) pa_nil)) (nomark _))))) (pss_one (ps_ret pe_bl)) pss_nil)
        (pss_cons (ps_for PassesOwn.never rfl (pi_list (pv 0)) (pg_name (i := 2) nd rfl (Or.inl rfl)) (pss_cons (ps_if (pt_not (pt_val (pe_isB rfl B.isinstance rfl B.tuple b_tuple (pv 2)))) (pss_one (ps_ret pe_bl)) pss_nil)
        (pss_one (ps_for PassesOwn.never rfl (pi_tup (pv 2)) (pg_name (i := 3) nd rfl (Or.inl rfl)) (pss_one (ps_if (pt_not (pt_val (pe_cal c__law_whole (hr.mono (by decide)) rfl (pa_cons (pv 3) pa_nil)))) (pss_one (ps_ret pe_bl)) pss_nil))))))
        (pss_one (ps_ret (pe_cmpR (op_eqK (K := K) hu) (pv 0) (pv 1) (nomark _)))))), ?_⟩
    refine ⟨_, rfl, _, _, .lst hf, rfl, _, rfl, iteF ?_⟩
    refine ⟨_, rfl, f, _, rfl, .inl (.inl (.inl hf)), _, rfl, d, _, rfl, .inl (.inl (.inl hd)), rfl, _, rfl, ?_⟩
    refine ite2 (fun h1 => ?_) (fun h1 => ?_)
    · have h1 : ¬ as.length = bs.length := by
        intro z
        rw [List.length_map, List.length_map, z] at h1
        simp at h1
      rw [tf.len, tg.len] at h1
      have : ¬ F = G := fun z => h1 (by rw [z])
      rw [decide_eq_false this] at k
      exact k
    · refine ⟨_, rfl, f, rfl, ⟨_, .inl (.inl hf)⟩, ?_⟩
      refine for_list (K := K) (a := f) (xs := as.map V.ref) (fun i σ H2 => ∃ v v2 : Option V, σ = [some (.ref f), some (.ref d), v, v2] ∧ H2 = H) ⟨none, none, rfl, rfl⟩ (fun i σ H2 _ ⟨_, _, _, e⟩ => e ▸ .inl (.inl hf)) ?_ ?_
      · rintro i y σ H2 hy ⟨v, v2, rfl, rfl⟩
        rw [List.getElem?_map] at hy
        obtain ⟨a, ha, rfl⟩ := Option.map_eq_some_iff.mp hy
        obtain ⟨xs, hx, hH⟩ := tf.at ha
        refine ⟨_, rfl, _, _, .tup hH, rfl, _, rfl, iteF ?_⟩
        refine ⟨_, rfl, a, rfl, ⟨_, .inl (.inl hH)⟩, ?_⟩
        refine for_tup (K := K) (a := a) (xs := xs.map V.int) (fun i σ H3 => ∃ v2 : Option V, σ = [some (.ref f), some (.ref d), some (.ref a), v2] ∧ H3 = H2) ⟨v2, rfl, rfl⟩ (fun i σ H2 _ ⟨_, _, e⟩ => e ▸ .inl (.inl hH)) ?_ ?_
        · rintro j z σ H3 hz ⟨v2, rfl, rfl⟩
          rw [List.getElem?_map] at hz
          obtain ⟨m, _, rfl⟩ := Option.map_eq_some_iff.mp hz
          refine ⟨_, rfl, m, rfl, _, rfl, iteF ?_⟩
          exact ⟨_, rfl, rfl⟩
        · rintro σ H3 ⟨v2, rfl, rfl⟩
          exact ⟨_, _, rfl, rfl⟩
      · rintro σ H2 ⟨v, v2, rfl, rfl⟩
        refine ⟨_, rfl, _, rfl, .l (F.map dI), .l (G.map dI), ⟨f, _, rfl, .inl (.inl hf), tf.atDs⟩, ⟨d, _, rfl, .inl (.inl hd), tg.atDs⟩, likes_t F G, ?_, ?_, ?_⟩
        · rw [dep]; (clear hu; omega)
        · rw [dep]; have := deps_t F; (clear hu; omega)
        · show Q (.bl (deq (.l (F.map dI)) (.l (G.map dI)))) _
          rw [deq, deqs_t]
          exact k
end
end K15

namespace K15
open PySem L2
noncomputable abbrev Up (x : List Int) : Prop := x.Pairwise (· < ·)
structure Gd (n z : Nat) (F : List (List Int)) : Prop where
  nd : F.Nodup
  len : ∀ x ∈ F, x.length = z
  up : ∀ x ∈ F, Up x
  lt : ∀ x ∈ F, ∀ a ∈ x, 0 ≤ a ∧ a < (n : Int)
theorem gd_st {n z : Nat} {ms : List Nat} (hz : 1 ≤ z) (hnd : ms.Nodup) (hb : ∀ i ∈ ms, i < SH.C n z) : Gd n z (ms.map (stI z)) where
  nd := by
    rw [List.nodup_iff_pairwise_ne, List.pairwise_map]
    exact (List.nodup_iff_pairwise_ne.mp hnd).imp fun {a b} h q => h (stI_inj hz q)
  len := fun x hx => by obtain ⟨i, _, rfl⟩ := List.mem_map.mp hx; exact stI_len z i
  up := fun x hx => by
    obtain ⟨i, _, rfl⟩ := List.mem_map.mp hx
    show ((SH.st z i).map fun n : Nat => (n : Int)).Pairwise (· < ·)
    rw [List.pairwise_map]
    exact (SH.st_up hz).imp fun {a b} h => by (clear hz; omega)
  lt := fun x hx a ha => by
    obtain ⟨i, hi, rfl⟩ := List.mem_map.mp hx
    obtain ⟨m, hm, rfl⟩ := List.mem_map.mp ha
    have := st_small hz (hb i hi) hm
    (clear hz; omega)
end K15

namespace K15
open PySem L2
noncomputable def sI (x : Int) : Str := Str.ofString (toString x)
noncomputable def wS (xs : List Int) : Str := Txt.join (Str.ofString ".") (xs.map sI)
noncomputable def tF (F : List (List Int)) : Str := Txt.join (Str.ofString " ") (F.map wS)
theorem dot_eq : Str.ofString "." = ⟨#[46]⟩ := by decide +kernel
theorem blank_eq : Str.ofString " " = ⟨#[32]⟩ := by decide +kernel
noncomputable def Sm (x : Int) : Prop := 0 ≤ x ∧ x < 12
theorem sm_cases {p : Int → Prop} (h : ∀ n : Fin 12, p (n.val : Int)) {x : Int} (s : Sm x) : p x := by
  obtain ⟨h1, h2⟩ := s
  have := h ⟨x.toNat, by (clear h1; omega)⟩
  have e : ((x.toNat : Nat) : Int) = x := by omega
  rw [← e]; exact this
theorem sI_len {x : Int} (s : Sm x) : (sI x).length ≤ 2 ∧ 46 ∉ (sI x).cps.toList ∧ 32 ∉ (sI x).cps.toList ∧ 1 ≤ (sI x).length :=
  sm_cases (p := fun x => (sI x).length ≤ 2 ∧ 46 ∉ (sI x).cps.toList ∧ 32 ∉ (sI x).cps.toList ∧ 1 ≤ (sI x).length) (by decide +kernel) s
theorem log_sm {x : Int} (s : Sm x) : x.natAbs.log2 < 1920 := sm_cases (p := fun x => x.natAbs.log2 < 1920) (by decide +kernel) s
theorem fold_le (c b : Nat) : ∀ (ts : List Str) (n : Nat), (∀ t ∈ ts, t.length ≤ b) → ts.foldl (fun x1 x2 => x1 + x2.length + c) n ≤ n + ts.length * (b + c)
  | [], n, _ => by simp
  | t :: ts, n, h => by
    have h1 := fold_le c b ts (n + t.length + c) fun x hx => h x (List.mem_cons_of_mem _ hx)
    have h2 := h t List.mem_cons_self
    rw [List.foldl_cons, List.length_cons, Nat.add_mul]
    omega
theorem join_ok {sep : Str} {ts : List Str} {b : Nat} (h : ∀ t ∈ ts, t.length ≤ b) (hs : sep.length ≤ 1) (hl : ts.length * (b + 1) ≤ 100000) : JoinOk sep ts = true := by
  unfold JoinOk Builtin.Str.tooLong
  have h1 := fold_le sep.length b ts 0 h
  have h2 : ts.length * (b + sep.length) ≤ ts.length * (b + 1) := Nat.mul_le_mul_left _ (by (clear h1 hl; omega))
  rw [List.foldl_toArray']
  · rw [Bool.not_eq_true', decide_eq_false_iff_not, sizeLine_eq]
    (clear hs; omega)
  · rfl
theorem jn_len (c b : Nat) : ∀ ts : List (List Nat), (∀ t ∈ ts, t.length ≤ b) → (Tx1.jn c ts).length ≤ ts.length * (b + 1)
  | [], _ => by simp [Tx1.jn]
  | [a], h => by have := h a (by simp); simp [Tx1.jn]; omega
  | a :: a2 :: r, h => by
    have h1 := jn_len c b (a2 :: r) fun t ht => h t (List.mem_cons_of_mem _ ht)
    have h2 := h a (by simp)
    rw [Tx1.jn, List.length_append, List.length_cons]
    rw [List.length_cons (a := a), Nat.add_mul]
    omega
theorem join_len {c b : Nat} {ts : List Str} (h : ∀ t ∈ ts, t.length ≤ b) : (Txt.join ⟨#[c]⟩ ts).length ≤ ts.length * (b + 1) := by
  have e1 : Txt.join ⟨#[c]⟩ ts = Str.join ⟨#[c]⟩ ts := StrLaws.glued_eq_join _ ts
  have h1 := jn_len c b (ts.map fun t => t.cps.toList) fun t ht => by
    obtain ⟨s, hs, rfl⟩ := List.mem_map.mp ht; exact h s hs
  rw [← Tx1.join_cps, List.length_map] at h1
  rw [e1]; exact h1
theorem jn_mem {c : Nat} : ∀ {ts : List (List Nat)} {d : Nat}, d ∈ Tx1.jn c ts → d = c ∨ ∃ t ∈ ts, d ∈ t
  | [], d, h => by simp [Tx1.jn] at h
  | [a], d, h => .inr ⟨a, by simp, h⟩
  | a :: a2 :: r, d, h => by
    rw [Tx1.jn] at h
    rcases List.mem_append.mp h with h | h
    · exact .inr ⟨a, by simp, h⟩
    · rcases List.mem_cons.mp h with h | h
      · exact .inl h
      · rcases jn_mem h with h | ⟨t, ht, h⟩
        · exact .inl h
        · exact .inr ⟨t, List.mem_cons_of_mem _ ht, h⟩
theorem wS_len {xs : List Int} (h : ∀ a ∈ xs, Sm a) (hl : xs.length ≤ 6) : (wS xs).length ≤ 18 ∧ 32 ∉ (wS xs).cps.toList := by
  unfold wS
  rw [dot_eq]
  constructor
  · have := join_len (c := 46) (b := 2) (ts := xs.map sI) fun t ht => by
      obtain ⟨x, hx, rfl⟩ := List.mem_map.mp ht; exact (sI_len (h x hx)).1
    rw [List.length_map] at this
    omega
  · have e1 : Txt.join ⟨#[46]⟩ (xs.map sI) = Str.join ⟨#[46]⟩ (xs.map sI) := StrLaws.glued_eq_join _ _
    rw [e1, Tx1.join_cps]
    intro q
    rcases jn_mem q with q | ⟨t, ht, q⟩
    · exact absurd q (by decide)
    · rw [List.map_map] at ht
      obtain ⟨x, hx, rfl⟩ := List.mem_map.mp ht
      exact (sI_len (h x hx)).2.2.1 q
theorem fam_up : ∀ {n : Nat} {F seen : List (List Int)}, famGo n seen F = true → ∀ x ∈ F, rises 12 (-1) x = true
  | _, [], _, _, x, hx => nomatch hx
  | n, y :: F, seen, h, x, hx => by
    rw [famGo] at h
    split at h
    · cases h
    · split at h
      · cases h
      · rename_i h2
        rcases List.mem_cons.mp hx with rfl | hx
        · cases e : rises 12 (-1) x with
          | true => rfl
          | false => exact absurd (.inr e) h2
        · exact fam_up h x hx
theorem join_dot {xs : List Int} (h : ∀ a ∈ xs, Sm a) (hl : xs.length ≤ 6) : JoinOk (Str.ofString ".") (xs.map sI) = true :=
  join_ok (b := 2) (fun t ht => by obtain ⟨x, hx, rfl⟩ := List.mem_map.mp ht; exact (sI_len (h x hx)).1) (by rw [dot_eq]; decide) (by rw [List.length_map]; omega)
section
variable {P : Program} {w : World} {K : PySem.W.Frag} {mg : Str → Option Value} {base : Heap}
end
end K15

namespace L2
open PySem PySem.Spec PyProof.Rows
theorem pe_bmK {X : Cx} {K : PySem.W.Frag} {o e : Expr} {es : List Expr} {to : TE} {t : TA} {name : Str} {apos cpos : Pos} {T id : String} {r : V → List V → Hp → VK → Prop} (pa : PlainAttrs T) (slot : Slot T name id) (hty : typeOf (.builtin id) = pure (.type "method_descriptor")) (hm : MtR X id r) (ho : PE X o to) (ha : PA X (e :: es) t)
    (hbase : attributeBase o name X.env (eval o X.env) = eval o X.env := by rfl)
    (hfew : ((backTo cpos (starEach (e :: es) X.env)).all (fun x => !x.1) && (backToKw cpos (keywordEach [] X.env)).all (fun x => x.1.isSome)
      && decide ((e :: es).length + ([] : List Keyword).length + (if ([] : List Keyword).isEmpty then 0 else 1) < 30)) = true := by rfl)
    (hline : (apos.endLine == cpos.line) = true := by rfl) (hs : starEach (e :: es) X.env = (false, eval e X.env) :: starEach es X.env := by rfl) (hplain : (backTo cpos (starEach es X.env)).any (·.1) = false := by rfl) (h : X.K = K := by rfl) :
    PE X (.Call (.Attribute o name apos) (e :: es) [] cpos) (tBM K T r to t) := by
  subst h
  exact pe_bm pa slot hty hm ho ha hbase hfew hline hs hplain
end L2
namespace K15
open PySem L2
noncomputable def SmF (F : List (List Int)) : Prop := ∀ x ∈ F, (∀ a ∈ x, Sm a) ∧ 1 ≤ x.length ∧ x.length ≤ 6
theorem join_blank2 {F : List (List Int)} (h : SmF F) (hl : F.length ≤ 300) : JoinOk (Str.ofString " ") (F.map wS) = true :=
  join_ok (b := 18) (fun t ht => by obtain ⟨x, hx, rfl⟩ := List.mem_map.mp ht; exact (wS_len (h x hx).1 (h x hx).2.2).1) (by rw [blank_eq]; decide) (by rw [List.length_map]; omega)
noncomputable def spTx : Sp := fun vs H Q _ => ∃ (p : Addr) (as : List Addr) (F : List (List Int)), vs = [.ref p] ∧ H p = some (.lst (as.map V.ref)) ∧ TupsH H as F ∧ SmF F ∧ F.length ≤ 300 ∧ ∀ H2, Same H H2 → Q (.str (tF F)) H2
section
variable {P : Program} {w : World} {K : PySem.W.Frag} {mg : Str → Option Value} {base : Heap}
theorem sc__law_text : FnScope ["family"] ["family"] (defScope (top 24)) := ⟨rfl, rfl, rfl, by decide +kernel, rfl, by decide +kernel, by decide +kernel⟩
set_option maxHeartbeats 8000000 in
theorem ok__law_text {f : Addr} {fd : FuncData} (F : Fun K "_law_text" "_law_text" (top 24) f fd) (B : Bt mg) : FnOk P w K mg base CX0 2 f fd ["family"] spTx := by
  have nd := sc__law_text.nd
  refine F.ok sc__law_text (fun vs H Q E h => ?_) (fun cdv A outer s H vs Q E hr h => ?_)
  · obtain ⟨p, as, F, rfl, _⟩ := h
    rfl
  · obtain ⟨p, as, F, rfl, hp, ht, hf, h300, k⟩ := h
    have hlen := ht.len
    refine ⟨_, (pss_one (ps_ret (pe_bm PySem.F.plainAttrs_str PySem.F.slot_str_join PySem.F.type_str_join (mt_joinK (K := K)) pe_str (pa_cons (pe_comp ["one"] [] ⟨rfl, by decide +kernel, by decide +kernel, of_decide_eq_true (by kernel_rfl), fun j hj => (nomatch hj)⟩ rfl (gown_name (by decide)) (pi_list (pv 0)) (fun _ _ _ _ => (pg_name (i := 0) (show (["one"] : List Str).Nodup from by decide +kernel) rfl (Or.inl rfl) (.inr rfl))) (fun _ _ _ _ => pifs_nil) (fun _ _ _ _ => (pe_bmK (K := K) PySem.F.plainAttrs_str PySem.F.slot_str_join PySem.F.type_str_join (mt_joinK (K := K)) pe_str (pa_cons (pe_comp ["thing"] [] ⟨rfl, by decide +kernel, by decide +kernel, of_decide_eq_true (by kernel_rfl), fun j hj => (nomatch hj)⟩ rfl (gown_name (by decide)) (pi_tupK (K := K) (pv 0)) (fun _ _ _ _ => (pg_name (i := 0) (show (["thing"] : List Str).Nodup from by decide +kernel) rfl (Or.inl rfl) (.inr rfl))) (fun _ _ _ _ => pifs_nil) (fun _ _ _ _ => (pe_callTy call_str_int rfl B.str b_str (pa_cons (pv 0) pa_nil)))) pa_nil)))) pa_nil)))), ?_⟩
    refine ⟨rfl, ?_⟩
    refine ⟨_, rfl, p, rfl, ⟨_, .inl (.inl hp)⟩, fun D hD => ?_⟩
    refine comps_by as.length (fun i Hi => Same H Hi ∧ Hi D = some (.lst (((F.take i).map wS).map V.str))) ⟨upd_fresh hD, upd_same⟩ ?_ ?_
    · rintro Hi ⟨s2, hl1⟩
      rw [hlen, List.take_length] at hl1
      exact ⟨⟨_, s2.seq (.inl (.inl hp)), by rw [List.length_map]; exact Nat.le_refl _⟩, _, D, _, rfl, rfl, .inl (.inl hl1), join_blank2 hf h300, k _ s2⟩
    · rintro i Hi hi ⟨s2, hl1⟩
      have hil : i < F.length := by (clear h300; omega)
      have hx : (as.map V.ref)[i]? = some (.ref as[i]) := by rw [List.getElem?_map, List.getElem?_eq_getElem hi]; rfl
      refine ⟨⟨_, _, s2.seq (.inl (.inl hp)), hx⟩, ?_⟩
      rintro x H' ⟨rfl, hy⟩
      have ey := hy _ (s2.seq (.inl (.inl hp)))
      rw [hx] at ey
      cases ey
      obtain ⟨xs, hx1, hx2⟩ := ht.at (List.getElem?_eq_getElem hi)
      obtain ⟨_, hx3⟩ := List.getElem?_eq_some_iff.mp hx1
      have hm : xs ∈ F := hx3 ▸ List.getElem_mem hil
      obtain ⟨f1, f2, f3⟩ := hf xs hm
      have hq : SqT K H' as[i] (xs.map V.int) := .inl (.inl (s2 _ _ hx2))
      unfold gName
      refine yes_go ?_
      refine ⟨rfl, ?_⟩
      refine ⟨_, rfl, as[i], rfl, ⟨_, hq⟩, fun D2 hD2 => ?_⟩
      have nD : D ≠ D2 := ne_of_none hl1 hD2
      refine comps_by xs.length (fun j Hj => Same H' Hj ∧ Hj D2 = some (.lst (((xs.take j).map sI).map V.str))) ⟨upd_fresh hD2, upd_same⟩ ?_ ?_
      · rintro Hj ⟨s3, hl3⟩
        rw [List.take_length] at hl3
        refine ⟨⟨_, s3.sqT hq, by rw [List.length_map]; exact Nat.le_refl _⟩, _, D2, _, rfl, rfl, .inl (.inl hl3), join_dot f1 f3, ?_⟩
        refine ⟨_, s3 _ _ hl1, (by rw [List.length_map, List.length_map, List.length_take]; exact small1000 (by (clear nD f3 f2 hil hlen; omega))), _, by (clear nD f3 f2 hil hlen h300; omega), rfl, hi, ?_, ?_⟩
        · exact fun b o e => by rw [upd_ne (ne_of_none e hD)]; exact (s2.trans s3) b o e
        · rw [upd_same]
          show some (HO.lst (((F.take i).map wS).map V.str ++ [V.str (wS xs)])) = _
          rw [List.take_succ_eq_append_getElem hil, hx3, List.map_append, List.map_append]
          rfl
      · rintro j Hj hj ⟨s3, hl3⟩
        have hz : (xs.map V.int)[j]? = some (.int xs[j]) := by rw [List.getElem?_map, List.getElem?_eq_getElem hj]; rfl
        refine ⟨⟨_, _, s3.sqT hq, hz⟩, ?_⟩
        rintro x H2 ⟨rfl, hy2⟩
        have ey2 := hy2 _ (s3.sqT hq)
        rw [hz] at ey2
        cases ey2
        refine yes_go ?_
        refine ⟨_, rfl, _, rfl, log_sm (f1 _ (List.getElem_mem hj)), ?_⟩
        refine ⟨_, hl3, (by rw [List.length_map, List.length_map, List.length_take]; exact small1000 (by (clear nD f2 hil hlen h300; omega))), _, by (clear nD f3 f2 hil hlen h300; omega), rfl, hj, ?_, ?_⟩
        · exact fun b o e => by rw [upd_ne (ne_of_none e hD2)]; exact s3 b o e
        · rw [upd_same]
          show some (HO.lst (((xs.take j).map sI).map V.str ++ [V.str (sI xs[j])])) = _
          rw [List.take_succ_eq_append_getElem hj, List.map_append, List.map_append]
          rfl
end
end K15

namespace L2
theorem RoomH.mark {k : Nat} {A : PySem.Around} {v : Option PySem.Value} (r : RoomH k A) : RoomH k (A.mark v) := ⟨r.dp, r.un⟩
end L2
namespace K15
open PySem L2 Exc
theorem sorted_uniq {l m : List Int} (hp : l.Perm m) (hl : l.Pairwise (· ≤ ·)) (hm : m.Pairwise (· ≤ ·)) : l = m :=
  List.Perm.eq_of_pairwise (fun a b _ _ h1 h2 => Int.le_antisymm h1 h2) hl hm hp
noncomputable def spMk (K : PySem.W.Frag) (aB aN aF aT : Addr) : Sp := fun vs H Q _ => ∃ (ea C : Addr) (b1 b2 b3 b4 b5 : Bool), vs = [.ref ea] ∧ H ea = some (.ext (isExc C ea)) ∧ XK1 K C ∧ PySem.W.kitOne K (.ref C) (.ref aB) = some b1 ∧ PySem.W.kitOne K (.ref C) (.ref aN) = some b2 ∧
  PySem.W.kitOne K (.ref C) (.ref aF) = some b3 ∧ PySem.W.kitOne K (.ref C) (.ref aT) = some b4 ∧ PySem.W.kitOne K (.ref C) (.type "ValueError") = some b5 ∧ ∀ l H2, Same H H2 → H2 l = some (.lst [.bl b1, .bl b2, .bl b3, .bl b4, .bl (!b5)]) → Q (.ref l) H2
section
variable {P : Program} {w : World} {K : PySem.W.Frag} {mg : Str → Option Value} {base : Heap}
theorem sc__law_marks_of : FnScope ["e", "marks"] ["e"] (defScope (top 23)) := ⟨rfl, rfl, rfl, by decide +kernel, rfl, by decide +kernel, by decide +kernel⟩
theorem ok__law_marks_of {f : Addr} {fd : FuncData} {aBadSet aNoSuch aBadFamily aNoText : Addr} (F : Fun K "_law_marks_of" "_law_marks_of" (top 23) f fd) (B : Bt mg) (MBadSet : mg "BadSet" = some (.ref aBadSet)) (MNoSuch : mg "NoSuch" = some (.ref aNoSuch)) (MBadFamily : mg "BadFamily" = some (.ref aBadFamily)) (MNoText : mg "NoText" = some (.ref aNoText)) :
    FnOkH P w K mg base 1 f fd ["e"] (spMk K aBadSet aNoSuch aBadFamily aNoText) := by
  have nd := sc__law_marks_of.nd
  refine F.okH sc__law_marks_of (fun vs H Q E h => ?_) (fun cdv A outer s H vs Q E hr h => ?_)
  · obtain ⟨ea, C, b1, b2, b3, b4, b5, rfl, _⟩ := h
    rfl
  · obtain ⟨ea, C, b1, b2, b3, b4, b5, rfl, hH, xk, k1, k2, k3, k4, k5, k⟩ := h
    refine ⟨_, (pss_cons (ps_set (i := 1) nd rfl (Or.inl rfl) (pe_lst (pa_cons (pe_isX (v := .ref aBadSet) rfl B.isinstance (pv 0) (fun _ _ _ _ _ I q => ld_glob I rfl MBadSet q)) (pa_cons (pe_isX (v := .ref aNoSuch) rfl B.isinstance (pv 0) (fun _ _ _ _ _ I q => ld_glob I rfl MNoSuch q)) (pa_cons (pe_isX (v := .ref aBadFamily) rfl B.isinstance (pv 0) (fun _ _ _ _ _ I q => ld_glob I rfl MBadFamily q)) (pa_cons (pe_isX (v := .ref aNoText) rfl B.isinstance (pv 0) (fun _ _ _ _ _ I q => ld_glob I rfl MNoText q)) pa_nil))))))
        (pss_one (ps_ret (pe_op op_cat (pv 1) (pe_lst (pa_cons (pe_not (pe_isX (v := .type "ValueError") rfl B.isinstance (pv 0) (fun _ _ _ _ _ I q => ld_blt I rfl B.ValueError b_ValueError q))) pa_nil)))))), ?_⟩
    refine ⟨_, rfl, ea, C, b1, rfl, hH, xk, k1, _, rfl, ea, C, b2, rfl, hH, xk, k2, _, rfl, ea, C, b3, rfl, hH, xk, k3, _, rfl, ea, C, b4, rfl, hH, xk, k4, (by show 4 ≤ sizeLine; decide), fun l hl => ?_⟩
    have nel : ea ≠ l := ne_of_none hH hl
    refine ⟨_, rfl, _, rfl, ea, C, b5, rfl, (by rw [upd_ne nel]; exact hH), xk, k5, _, rfl, (by show 1 ≤ sizeLine; decide), fun l2 hl2 => ?_⟩
    have nl : l ≠ l2 := fun z => by rw [← z, upd_same] at hl2; cases hl2
    refine ⟨l, l2, _, _, rfl, rfl, (by rw [upd_ne nl, upd_same]), upd_same, (by show 4 + 1 ≤ sizeLine; decide), fun p hp => ?_⟩
    exact k p _ ((upd_fresh hl).trans ((upd_fresh hl2).trans (upd_fresh hp))) (by rw [upd_same]; rfl)
end
end K15

namespace K15
open PySem L2 Exc
noncomputable def allS {α β : Type} (f : α → Option β) : List α → Option (List β)
  | [] => some []
  | a :: r => (f a).bind fun x => (allS f r).map fun xs => x :: xs
theorem allS_snoc {α β : Type} {f : α → Option β} {a : α} {x : β} (hx : f a = some x) : ∀ {l : List α} {xs : List β}, allS f l = some xs → allS f (l ++ [a]) = some (xs ++ [x])
  | [], xs, h => by cases h; simp [allS, hx]
  | b :: l, xs, h => by
    unfold allS at h
    cases hb : f b with
    | none => rw [hb] at h; cases h
    | some y =>
      rw [hb] at h
      cases hl : allS f l with
      | none => rw [hl] at h; cases h
      | some ys =>
        rw [hl] at h
        cases h
        show ((f b).bind fun x => (allS f (l ++ [a])).map fun xs => x :: xs) = _
        rw [hb, allS_snoc hx hl]; rfl
theorem allS_none {α β : Type} {f : α → Option β} {a : α} (hx : f a = none) : ∀ {l : List α}, a ∈ l → allS f l = none
  | b :: l, h => by
    rcases List.mem_cons.mp h with rfl | h
    · simp [allS, hx]
    · show ((f b).bind fun x => (allS f l).map fun xs => x :: xs) = none
      rw [allS_none hx h]
      cases f b <;> rfl
theorem allS_pair {α β : Type} {f : α → Option β} : ∀ {l : List α} {xs : List β}, allS f l = some xs → Paired (fun a x => f a = some x) l xs
  | [], xs, h => by cases h; exact .nil
  | b :: l, xs, h => by
    unfold allS at h
    cases hb : f b with
    | none => rw [hb] at h; cases h
    | some y =>
      rw [hb] at h
      cases hl : allS f l with
      | none => rw [hl] at h; cases h
      | some ys =>
        rw [hl] at h
        cases h
        exact .cons hb (allS_pair hl)
theorem allS_len {α β : Type} {f : α → Option β} {l : List α} {xs : List β} (h : allS f l = some xs) : xs.length = l.length := (Paired.length (allS_pair h)).symm
noncomputable def rdP (p : Str) : Option Int := ((List.range 12).find? fun k : Nat => decide (sI (k : Int) = p)).map fun k : Nat => (k : Int)
noncomputable def rdW (w : Str) : Option (List Int) := allS rdP (Txt.split w (Str.ofString "."))
noncomputable def rdT (t : Str) : Option (List (List Int)) := if t = Str.ofString "" then some [] else (allS rdW (Txt.split t (Str.ofString " "))).bind fun F => if isFam F = true then some F else none
theorem rdP_sI {x : Int} (s : Sm x) : rdP (sI x) = some x := sm_cases (p := fun x => rdP (sI x) = some x) (by decide +kernel) s
theorem rdP_some {p : Str} {x : Int} (h : rdP p = some x) : Sm x ∧ p = sI x := by
  unfold rdP at h
  obtain ⟨k, hk, rfl⟩ := Option.map_eq_some_iff.mp h
  have h1 := List.find?_some hk
  have h2 := List.mem_range.mp (List.mem_of_find?_eq_some hk)
  exact ⟨⟨by (clear h2; omega), by omega⟩, (of_decide_eq_true h1).symm⟩
noncomputable def prs (n : Nat) : List (Str × V) := (List.range n).map fun i : Nat => (sI (i : Int), V.int (i : Int))
theorem prs_nodup : ((prs 12).map (·.1)).Nodup := by decide +kernel
theorem prs_val (p : Str) : valV ((prs 12).map fun kv => ((Sum.inr kv.1 : Key), kv.2)) (Sum.inr p) = (rdP p).map V.int := by
  unfold valV prs rdP
  rw [List.map_map, List.find?_map, Option.map_map, Option.map_map]
  have e : ((fun kv : Key × V => decide (kv.1 = Sum.inr p)) ∘ ((fun kv : Str × V => ((Sum.inr kv.1 : Key), kv.2)) ∘ fun i : Nat => (sI (i : Int), V.int (i : Int)))) = fun k : Nat => decide (sI (k : Int) = p) := by
    funext k
    show decide ((Sum.inr (sI (k : Int)) : Key) = Sum.inr p) = _
    by_cases q : sI (k : Int) = p
    · rw [q]; simp
    · rw [decide_eq_false q, decide_eq_false (fun z => q (Sum.inr.inj z))]
  rw [e]
  rfl
theorem paired_snoc {α β : Type} {R : α → β → Prop} {as : List α} {bs : List β} {a : α} {b : β} (h : Paired R as bs) (r : R a b) : Paired R (as ++ [a]) (bs ++ [b]) := by
  induction h with
  | nil => exact .cons r .nil
  | cons q t ih => exact .cons q ih
theorem jn_le {c : Nat} : ∀ {ts : List (List Nat)} {t : List Nat}, t ∈ ts → t.length ≤ (Tx1.jn c ts).length
  | [a], t, h => by have : t = a := by simpa using h
                    subst this; exact Nat.le_refl _
  | a :: a2 :: r, t, h => by
    rw [Tx1.jn, List.length_append, List.length_cons]
    rcases List.mem_cons.mp h with rfl | h
    · omega
    · have := jn_le (c := c) h; omega
theorem split_part {x w : Str} {c : Nat} (h : w ∈ Txt.split x ⟨#[c]⟩) : w.length ≤ x.length := by
  have h1 := StrLaws.join_split x ⟨#[c]⟩
  have h2 := congrArg (fun z : Str => z.cps.toList) h1
  simp only [Tx1.join_cps] at h2
  have h3 := jn_le (c := c) (List.mem_map.mpr ⟨w, h, rfl⟩ : w.cps.toList ∈ (Txt.split x ⟨#[c]⟩).map fun t => t.cps.toList)
  rw [h2] at h3
  exact h3
noncomputable def spRs (aT : Addr) : Sp := fun vs H Q E => ∃ (w : Str), vs = [.str w] ∧ w.length ≤ 90000 ∧ (rdW w = none → ∀ H2, Same H H2 → E (.ref aT) none H2) ∧ (∀ xs, rdW w = some xs → ∀ t H2, Same H H2 → H t = none → H2 t = some (.tup (xs.map V.int)) → Q (.ref t) H2)
noncomputable def spRd (aT : Addr) : Sp := fun vs H Q E => ∃ (t : Str), vs = [.str t] ∧ t.length ≤ 90000 ∧ (rdT t = none → ∀ H2, Same H H2 → E (.ref aT) none H2) ∧
  (∀ F, rdT t = some F → ∀ (l : Addr) (as : List Addr) (H2 : Hp), Same H H2 → H l = none → H2 l = some (.lst (as.map V.ref)) → TupsH H2 as F → Q (.ref l) H2)
theorem big1 {n : Nat} (h : n ≤ 90002) : n < sizeLine := by rw [sizeLine_eq]; omega
section
variable {P : Program} {w : World} {K : PySem.W.Frag} {mg : Str → Option Value} {base : Heap}
theorem sc_read_set : FnScope ["text", "writings", "things", "figures"] ["text"] (defScope (top 14)) := ⟨rfl, rfl, rfl, by decide +kernel, rfl, by decide +kernel, by decide +kernel⟩
set_option maxHeartbeats 4000000 in
theorem ok_read_set {f : Addr} {fd : FuncData} (F : Fun K "read_set" "read_set" (top 14) f fd) {aNoText : Addr} (B : Bt mg) (T : Tx mg) (XNoText : XCls K aNoText [.type "ValueError", .type "Exception", .type "BaseException", .type "object"] "ValueError.__new__") (MNoText : mg "NoText" = some (.ref aNoText)) :
    FnOk P w K mg base (CX1 P w) 3 f fd ["text"] (spRs aNoText) := by
  have nd := sc_read_set.nd
  refine F.okX sc_read_set (fun vs H Q E h => ?_) (fun cdv A outer s H vs Q E hr h => ?_)
  · obtain ⟨w, rfl, _⟩ := h
    rfl
  · obtain ⟨wd, rfl, hwl, kE, kQ⟩ := h
    have hu1 := room1 hr
    refine ⟨_, (PSs.fly (pss_cons (ps_set (i := 1) nd rfl (Or.inl rfl) (pe_callTy (call_dictOf rfl) rfl B.dict b_dict (pa_cons (pe_comp ["thing"] [] ⟨rfl, by decide +kernel, by decide +kernel, of_decide_eq_true (by kernel_rfl), fun j hj => (nomatch hj)⟩ rfl (gown_name (by decide)) (pi_range1 rfl B.range (pa_cons (pe_globI rfl T.things) pa_nil)) (fun _ _ _ _ => (pg_name (i := 0) (show (["thing"] : List Str).Nodup from by decide +kernel) rfl (Or.inl rfl) (.inr rfl))) (fun _ _ _ _ => pifs_nil) (fun _ _ _ _ => (pe_tup (pa_cons (pe_callTy call_str_int rfl B.str b_str (pa_cons (pv 0) pa_nil)) (pa_cons (pv 0) pa_nil))))) pa_nil)))
        (pss_cons (ps_set (i := 2) nd rfl (Or.inl rfl) (pe_lst pa_nil))
        (pss_cons (ps_for (fly_own pin_fn rfl rfl rfl) rfl (pi_list (pe_bm PySem.F.plainAttrs_str PySem.F.slot_str_split PySem.F.type_str_split mt_split (pv 0) (pa_cons pe_str pa_nil))) (pg_name (i := 3) nd rfl (Or.inl rfl)) (pss_cons (ps_if (pt_cmp (pc_dnotin hu1 (pv 3) (pv 1))) (pss_one (ps_raiseF pin_fn rfl XNoText MNoText rfl pe_str)) pss_nil)
        (pss_one (ps_expr (pe_bm PySem.F.plainAttrs_list PySem.F.slot_list_append PySem.F.type_list_append mt_append (pv 2) (pa_cons (pe_dget hu1 (pv 1) (pv 3) (fun _ _ => rfl)) pa_nil))))))
        (pss_one (ps_ret (pe_callTy call_tuple_of rfl B.tuple b_tuple (pa_cons (pv 2) pa_nil)))))))), ?_⟩
    refine ⟨12, rfl, by decide, by decide, fun D hD => ?_⟩
    refine comps_by 12 (fun i Hi => ∃ bs : List Addr, Same H Hi ∧ Hi D = some (.lst (bs.map V.ref)) ∧ Paired (fun a kv => Hi a = some (.tup [.str (kv : Str × V).1, kv.2])) bs (prs i)) ⟨[], upd_fresh hD, upd_same, .nil⟩ ?_ ?_
    · rintro Hi ⟨bs, s1, hDi, hpr⟩
      refine ⟨Nat.le_refl _, D, bs, prs 12, rfl, hDi, hpr, prs_nodup, by decide, fun d hd => ?_⟩
      have s2 := s1.trans (upd_fresh hd (o := .dK ((prs 12).map fun kv => ((Sum.inr kv.1 : Key), kv.2))))
      have hd2 : (upd Hi d (.dK ((prs 12).map fun kv => ((Sum.inr kv.1 : Key), kv.2)))) d = some (.dK ((prs 12).map fun kv => ((Sum.inr kv.1 : Key), kv.2))) := upd_same
      revert s2 hd2
      generalize upd Hi d (.dK ((prs 12).map fun kv => ((Sum.inr kv.1 : Key), kv.2))) = H2
      intro s2 hd2
      refine ⟨Nat.zero_le _, fun L hL => ?_⟩
      refine ⟨_, rfl, rfl, _, _, rfl, rfl, by decide +kernel, by (clear hu1; omega), fun sp hsp => ?_⟩
      have hps := PyProof.Rows.split_le wd (Str.ofString ".")
      have hrw : rdW wd = allS rdP (Txt.split wd (Str.ofString ".")) := rfl
      rw [hrw] at kE kQ
      revert kE kQ hps hsp
      generalize Txt.split wd (Str.ofString ".") = ps
      intro kE kQ hsp hps
      have hLn : H L = none := s2.free hL
      have nLs : L ≠ sp := fun z => by rw [← z, upd_same] at hsp; cases hsp
      have s3 : Same H2 (upd (upd H2 L (.lst [])) sp (.lst (ps.map V.str))) := (upd_fresh hL).trans (upd_fresh hsp)
      refine ⟨sp, rfl, ⟨_, .inl (.inl upd_same)⟩, ?_⟩
      refine for_list (K := K) (a := sp) (xs := ps.map V.str) (fun i σ Hj => ∃ (v : Option V) (xs : List Int), σ = [some (.str wd), some (.ref d), some (.ref L), v] ∧ Same H2 Hj ∧ Hj sp = some (.lst (ps.map V.str)) ∧ Hj d = some (.dK ((prs 12).map fun kv => ((Sum.inr kv.1 : Key), kv.2))) ∧ Hj L = some (.lst (xs.map V.int)) ∧ allS rdP (ps.take i) = some xs)
        ⟨none, [], rfl, s3, upd_same, s3 _ _ hd2, by rw [upd_ne nLs, upd_same]; rfl, rfl⟩ (fun i σ Hj _ ⟨_, _, _, _, e, _⟩ => .inl (.inl e)) ?_ ?_
      · rintro i y σ Hj hy ⟨v, xs, rfl, s4, hsp4, hd4, hL4, hxs⟩
        rw [List.getElem?_map] at hy
        obtain ⟨a, ha, rfl⟩ := Option.map_eq_some_iff.mp hy
        obtain ⟨hi, hia⟩ := List.getElem?_eq_some_iff.mp ha
        have hg : DGet Hj d (.str a) ((rdP a).map V.int) := by
          have := DGet.k (k := Sum.inr a) hd4
          rw [prs_val] at this
          exact this
        refine ⟨_, rfl, _, rfl, d, _, rfl, hg, _, rfl, ?_⟩
        cases hra : rdP a with
        | none =>
          refine iteT ?_
          exact kE (allS_none hra (hia ▸ List.getElem_mem hi)) Hj (s2.trans s4)
        | some x =>
          refine iteF ?_
          rw [hra] at hg
          refine ⟨_, rfl, .inl ⟨rfl, _, .inl (.inl hL4)⟩, _, rfl, _, rfl, d, _, rfl, hg, ?_⟩
          have nLd : L ≠ d := fun z => by rw [z, hd4] at hL4; cases hL4
          have hxl := allS_len hxs
          refine ⟨L, _, _, rfl, rfl, hL4, (by rw [List.length_map, hxl, List.length_take]; exact big1 (by (clear hxl nLd nLs hu1; omega))), ?_⟩
          refine ⟨_, xs ++ [x], rfl, same_put s4 hL, by rw [upd_ne nLs.symm]; exact hsp4, by rw [upd_ne nLd.symm]; exact hd4, by rw [upd_same, List.map_append]; rfl, ?_⟩
          rw [List.take_succ_eq_append_getElem hi, hia]
          exact allS_snoc hra hxs
      · rintro σ Hj ⟨v, xs, rfl, s4, hsp4, hd4, hL4, hxs⟩
        rw [List.length_map, List.take_length] at hxs
        refine ⟨_, rfl, L, _, rfl, .inl ⟨.inl (.inl hL4), fun t ht => ?_⟩⟩
        exact kQ xs hxs t _ ((s2.trans s4).trans (upd_fresh ht)) ((s2.trans s4).free ht) upd_same
    · rintro i Hi hi ⟨bs, s1, hDi, hpr⟩
      refine ⟨hi, ?_⟩
      rintro x H' ⟨rfl, rfl⟩
      rw [show ((0 : Int) + (i : Int)) = i from by (clear hi hu1 hwl; omega)]
      unfold gName
      refine yes_go ?_
      refine ⟨_, rfl, _, rfl, log_sm ⟨by (clear hi hu1 hwl; omega), by (clear hu1 hwl; omega)⟩, _, rfl, (by show 2 ≤ sizeLine; decide), fun t ht => ?_⟩
      have nt : t ≠ D := fun z => by rw [z, hDi] at ht; cases ht
      refine ⟨_, by rw [upd_ne nt.symm]; exact hDi, ?_, _, by (clear nt hu1 hwl; omega), rfl, hi, bs ++ [t], same_put (s1.trans (upd_fresh ht)) hD, by rw [upd_same, List.map_append]; rfl, ?_⟩
      · have := Paired.length hpr
        rw [List.length_map, this]
        unfold prs
        rw [List.length_map, List.length_range]
        exact small1000 (by (clear this nt hu1 hwl; omega))
      · rw [show prs (i + 1) = prs i ++ [(sI i, V.int i)] from by unfold prs; rw [List.range_succ, List.map_append]; rfl]
        refine paired_snoc (Paired.mapP hpr fun a kv e => ?_) ?_
        · have n1 : a ≠ D := fun z => by rw [z, hDi] at e; cases e
          rw [upd_ne n1, upd_ne (ne_of_none e ht)]; exact e
        · rw [upd_ne nt, upd_same]; rfl
theorem sc_read : FnScope ["text", "family"] ["text"] (defScope (top 15)) := ⟨rfl, rfl, rfl, by decide +kernel, rfl, by decide +kernel, by decide +kernel⟩
set_option maxHeartbeats 4000000 in
theorem ok_read {f : Addr} {fd : FuncData} (F : Fun K "read" "read" (top 15) f fd) {aNoText : Addr} (B : Bt mg) (XNoText : XCls K aNoText [.type "ValueError", .type "Exception", .type "BaseException", .type "object"] "ValueError.__new__") (MNoText : mg "NoText" = some (.ref aNoText))
    (c_is_family : Cal P w K mg base "is_family" 3 spIF) (c_read_set : CalX P w K mg base "read_set" 3 (spRs aNoText)) : FnOk P w K mg base (CX1 P w) 6 f fd ["text"] (spRd aNoText) := by
  have nd := sc_read.nd
  refine F.okX sc_read (fun vs H Q E h => ?_) (fun cdv A outer s H vs Q E hr h => ?_)
  · obtain ⟨t, rfl, _⟩ := h
    rfl
  · obtain ⟨tx, rfl, htl, kE, kQ⟩ := h
    refine ⟨_, (PSs.fly (pss_cons (ps_if (pt_cmpR op_eq (pv 0) pe_str (nomark _)) (pss_one (ps_ret (pe_lst pa_nil))) pss_nil)
        (pss_cons (ps_compF (i := 1) pin_fn ["part"] [] ⟨rfl, by decide +kernel, by decide +kernel, of_decide_eq_true (by kernel_rfl), fun j hj => (nomatch hj)⟩ rfl (gown_name (by decide)) rfl rfl rfl nd rfl rfl rfl (pi_list (pe_bm PySem.F.plainAttrs_str PySem.F.slot_str_split PySem.F.type_str_split mt_split (pv 0) (pa_cons pe_str pa_nil))) (fun _ _ _ _ => (pg_name (i := 0) (show (["part"] : List Str).Nodup from by decide +kernel) rfl (Or.inl rfl) (.inr rfl))) (fun _ _ _ _ => pifs_nil) (fun _ _ _ _ _ px => (pe_calF px c_read_set (hr.mono (by decide)) rfl (pa_cons (pv 0) pa_nil))))
        (pss_cons (ps_if (pt_not (pt_val (pe_cal c_is_family (hr.mono (by decide)) rfl (pa_cons (pv 1) pa_nil)))) (pss_one (ps_raiseF pin_fn rfl XNoText MNoText rfl pe_str)) pss_nil)
        (pss_one (ps_ret (pv 1))))))), ?_⟩
    refine ⟨_, rfl, rfl, _, rfl, ite2 (fun h1 => ?_) (fun h1 => ?_)⟩
    · have e : tx = Str.ofString "" := by
        have := of_decide_eq_true h1
        injection this
      have er : rdT tx = some [] := if_pos e
      exact ⟨Nat.zero_le _, fun l hl => kQ [] er l [] _ (upd_fresh hl) hl upd_same .nil⟩
    · have hne : ¬ tx = Str.ofString "" := fun z => h1 (decide_eq_true (by rw [z]))
      have er : rdT tx = (allS rdW (Txt.split tx (Str.ofString " "))).bind fun F => if isFam F = true then some F else none := if_neg hne
      rw [er] at kE kQ
      refine ⟨_, rfl, rfl, _, _, rfl, rfl, by decide +kernel, by omega, fun sp hsp => ?_⟩
      have hps := PyProof.Rows.split_le tx (Str.ofString " ")
      have hpt : ∀ w ∈ Txt.split tx (Str.ofString " "), w.length ≤ 90000 := fun w hw => by
        rw [blank_eq] at hw
        have := split_part hw; (clear hps; omega)
      revert kE kQ hps hsp hpt
      generalize Txt.split tx (Str.ofString " ") = ws
      intro kE kQ hsp hps hpt
      have s1 : Same H (upd H sp (.lst (ws.map V.str))) := upd_fresh hsp
      have hsp1 : (upd H sp (.lst (ws.map V.str))) sp = some (.lst (ws.map V.str)) := upd_same
      revert s1 hsp1
      generalize upd H sp (.lst (ws.map V.str)) = H1
      intro s1 hsp1
      refine ⟨sp, rfl, ⟨_, .inl (.inl hsp1)⟩, fun D hD => ?_⟩
      refine comps_by ws.length (fun i Hi => ∃ (bs : List Addr) (F : List (List Int)), Same H1 Hi ∧ Hi D = some (.lst (bs.map V.ref)) ∧ TupsH Hi bs F ∧ allS rdW (ws.take i) = some F) ⟨[], [], upd_fresh hD, upd_same, .nil, rfl⟩ ?_ ?_
      · rintro Hi ⟨bs, F, s2, hDi, hT, hF⟩
        rw [List.take_length] at hF
        have hFl := allS_len hF
        rw [hF] at kE kQ
        refine ⟨⟨_, s2.seq (.inl (.inl hsp1)), by rw [List.length_map]; exact Nat.le_refl _⟩, ?_⟩
        refine ⟨_, rfl, D, bs, F, rfl, hDi, hT, by rw [hT.len]; omega, fun H3 s3 => ⟨_, rfl, ?_⟩⟩
        cases hf : isFam F with
        | true =>
          refine iteF ?_
          exact ⟨_, rfl, kQ F (if_pos hf) D bs H3 ((s1.trans s2).trans s3) (s1.free hD) (s3 _ _ hDi) (hT.same s3)⟩
        | false =>
          refine iteT ?_
          exact kE (if_neg (by rw [hf]; decide)) H3 ((s1.trans s2).trans s3)
      · rintro i Hi hi ⟨bs, F, s2, hDi, hT, hF⟩
        have hFl := allS_len hF
        have hx : (ws.map V.str)[i]? = some (.str ws[i]) := by rw [List.getElem?_map, List.getElem?_eq_getElem hi]; rfl
        refine ⟨⟨_, _, s2.seq (.inl (.inl hsp1)), hx⟩, ?_⟩
        rintro x H' ⟨rfl, hy⟩
        have ey := hy _ (s2.seq (.inl (.inl hsp1)))
        rw [hx] at ey
        cases ey
        unfold gName
        refine yes_go ?_
        refine ⟨_, rfl, ws[i], rfl, hpt _ (List.getElem_mem hi), fun hn H3 s3 => ?_, fun xs hxs t H3 s3 ht0 ht => ?_⟩
        · exact kE (by rw [allS_none hn (List.getElem_mem hi)]; rfl) H3 ((s1.trans s2).trans s3)
        · have nt : t ≠ D := fun z => by rw [z, hDi] at ht0; cases ht0
          refine ⟨_, s3 _ _ hDi, ?_, _, by (clear nt hFl hps htl; omega), rfl, hi, bs ++ [t], F ++ [xs], same_put (s2.trans s3) hD, by rw [upd_same, List.map_append]; rfl, ?_, ?_⟩
          · rw [List.length_map, hT.len, hFl, List.length_take]; exact big1 (by (clear nt hFl; omega))
          · refine ((hT.same s3).put (s3 _ _ hDi)).snoc ?_
            rw [upd_ne nt]; exact ht
          · rw [List.take_succ_eq_append_getElem hi]
            exact allS_snoc hxs hF
end
end K15

namespace K15
open PySem L2 Exc
noncomputable def nm (p : Str) : Int := if p.length < 1 ∨ 2 < p.length ∨ (p.length = 2 ∧ p.cps[0]? = some 48) then -1 else if (p.cps.toList.all fun c => decide (48 ≤ c ∧ c ≤ 57)) = true then (NumText.digitsVal p.cps.toList : Int) else -1
noncomputable def spNu : Sp := fun vs H Q _ => ∃ (p : Str), vs = [.str p] ∧ p.length ≤ 90000 ∧ Q (.int (nm p)) H
theorem figs : (Str.ofString "0123456789").cps.toList = [48, 49, 50, 51, 52, 53, 54, 55, 56, 57] := by decide +kernel
theorem fig_mem (c : Nat) : decide (c ∈ (Str.ofString "0123456789").cps.toList) = decide (48 ≤ c ∧ c ≤ 57) := by
  rw [figs]
  rw [Bool.eq_iff_iff, decide_eq_true_iff, decide_eq_true_iff]
  simp only [List.mem_cons, List.not_mem_nil, or_false]
  omega
theorem dig_le : ∀ {cs : List Nat}, (∀ c ∈ cs, 48 ≤ c ∧ c ≤ 57) → cs.length ≤ 2 → NumText.digitsVal cs ≤ 99
  | [], _, _ => by decide
  | [a], h, _ => by
    have := h a (by simp)
    show 0 * 10 + (a - 48) ≤ 99
    omega
  | [a, b], h, _ => by
    have h1 := h a (by simp)
    have h2 := h b (by simp)
    show (0 * 10 + (a - 48)) * 10 + (b - 48) ≤ 99
    omega
  | _ :: _ :: _ :: _, _, h => by simp at h
theorem nm_range (p : Str) : -1 ≤ nm p ∧ nm p ≤ 99 := by
  unfold nm
  split
  · exact ⟨by omega, by omega⟩
  · rename_i h1
    split
    · rename_i h2
      have h3 := dig_le (cs := p.cps.toList) (fun c hc => by have := List.all_eq_true.mp h2 c hc; exact of_decide_eq_true this) (by
        have : p.cps.toList.length = p.length := rfl
        omega)
      exact ⟨by (clear h3 h1; omega), by (clear h1; omega)⟩
    · exact ⟨by (clear h1; omega), by (clear h1; omega)⟩
theorem nm_sI {x : Int} (s : Sm x) : nm (sI x) = x := sm_cases (p := fun x => nm (sI x) = x) (by decide +kernel) s
theorem sI_cps {x : Int} (s : Sm x) : (sI x).cps.toList = if x < 10 then [x.toNat + 48] else [49, x.toNat + 38] := sm_cases (p := fun x => (sI x).cps.toList = if x < 10 then [x.toNat + 48] else [49, x.toNat + 38]) (by decide +kernel) s
theorem nm_back {p : Str} (h0 : 0 ≤ nm p) (h1 : nm p ≤ 11) : p = sI (nm p) := by
  have hs : Sm (nm p) := ⟨h0, by (clear h0; omega)⟩
  refine Tx1.cps_inj ?_
  rw [sI_cps hs]
  revert h0 h1
  unfold nm
  split
  · intro h0; omega
  · rename_i q
    split
    · rename_i q2
      intro h0 h1
      have hd : ∀ c ∈ p.cps.toList, 48 ≤ c ∧ c ≤ 57 := fun c hc => by have := List.all_eq_true.mp q2 c hc; exact of_decide_eq_true this
      have hl : p.cps.toList.length = p.length := rfl
      have h48 : p.cps[0]? = p.cps.toList[0]? := (Array.getElem?_toList).symm
      rw [h48] at q
      generalize p.cps.toList = cs at *
      match cs, hl, hd with
      | [], hl, _ => simp at hl; (clear h1 h0; omega)
      | [a], hl, hd =>
        have ha := hd a (by simp)
        have e : NumText.digitsVal [a] = a - 48 := by show 0 * 10 + (a - 48) = _; (clear ha h1 h0 q hl; omega)
        rw [e] at h1 ⊢
        rw [if_pos (by (clear e h1 h0 q hl; omega))]
        congr 1; (clear e h1 h0 q hl; omega)
      | [a, b], hl, hd =>
        have ha := hd a (by simp)
        have hb := hd b (by simp)
        have e : NumText.digitsVal [a, b] = (a - 48) * 10 + (b - 48) := by show (0 * 10 + (a - 48)) * 10 + (b - 48) = _; (clear hb ha h1 h0 q hl; omega)
        have n0 : a ≠ 48 := fun z => q (.inr (.inr ⟨by rw [← hl]; rfl, by rw [z]; rfl⟩))
        rw [e] at h1 ⊢
        rw [if_neg (by (clear e hb h1 h0 q hl; omega))]
        have ea : a = 49 := by (clear e hb h0 q hl; omega)
        subst ea
        congr 2; (clear n0 e ha h1 h0 q hl; omega)
      | a :: b :: c :: r, hl, _ => simp at hl; (clear h1 h0; omega)
    · intro h0; (clear q; omega)
theorem nm_rd {p : Str} {x : Int} (h : rdP p = some x) : nm p = x := by
  obtain ⟨s, rfl⟩ := rdP_some h
  exact nm_sI s
theorem rd_nm {p : Str} (h0 : 0 ≤ nm p) (h1 : nm p ≤ 11) : rdP p = some (nm p) := by
  have e := nm_back h0 h1
  have := rdP_sI (x := nm p) ⟨h0, by (clear h0; omega)⟩
  rw [← e] at this
  exact this
theorem atc_of {xs : List Nat} {i : Nat} {v : Nat} (h : xs[i]? = some v) : atI xs (i : Int) = some v := by
  have hl := (List.getElem?_eq_some_iff.mp h).1
  unfold atI ixN
  rw [if_pos (by (clear hl; omega)), if_pos (by omega)]
  exact h
section
variable {P : Program} {w : World} {K : PySem.W.Frag} {mg : Str → Option Value} {base : Heap}
theorem sc__law_number : FnScope ["word", "sign"] ["word"] (defScope (top 27)) := ⟨rfl, rfl, rfl, by decide +kernel, rfl, by decide +kernel, by decide +kernel⟩
set_option maxHeartbeats 4000000 in
theorem ok__law_number {f : Addr} {fd : FuncData} (F : Fun K "_law_number" "_law_number" (top 27) f fd) (B : Bt mg) : FnOk P w K mg base CX0 2 f fd ["word"] spNu := by
  have nd := sc__law_number.nd
  refine F.ok sc__law_number (fun vs H Q E h => ?_) (fun cdv A outer s H vs Q E hr h => ?_)
  · obtain ⟨p, rfl, _⟩ := h
    rfl
  · obtain ⟨p, rfl, hpl, k⟩ := h
    refine ⟨_, (pss_cons (ps_if (PW.pt (pw_or (pt_cmpR op_lt (pe_callB call_len_str rfl B.len PySem.boot_len (pa_cons (pv 0) pa_nil)) pe_int (nomark _)) (pw_or (pt_cmpR op_gt (pe_callB call_len_str rfl B.len PySem.boot_len (pa_cons (pv 0) pa_nil)) pe_int (nomark _)) (pw_or1 (PW.pt (pw_and (pt_cmpR op_eq (pe_callB call_len_str rfl B.len PySem.boot_len (pa_cons (pv 0) pa_nil)) pe_int (nomark _)) (pw_and1 (pt_cmpR op_eq (pe_ix ix_str (pv 0) pe_int (fun _ _ => rfl)) pe_str (nomark _))))))))) (pss_one (ps_ret (pe_un un_neg pe_int))) pss_nil)
        (pss_cons (ps_for PassesOwn.never rfl (pi_str (pv 0)) (pg_name (i := 1) nd rfl (Or.inl rfl)) (pss_one (ps_if (pt_cmpR (op_notin_str) (pv 1) pe_str (by with_unfolding_all rfl)) (pss_one (ps_ret (pe_un un_neg pe_int))) pss_nil)))
        (pss_one (ps_ret (pe_callTy call_int_text rfl B.int b_int (pa_cons (pv 0) pa_nil)))))), ?_⟩
    have no : (p.length < 1 ∨ 2 < p.length ∨ (p.length = 2 ∧ p.cps[0]? = some 48)) → Q (.int (-1)) H := fun h => by
      unfold nm at k
      rw [if_pos h] at k; exact k
    have hz : p.length ≤ sizeLine := by rw [sizeLine_eq]; omega
    have e1 : ∀ {X Y : Prop}, (if false = true then X else Y) → Y := fun {X Y} z => by rw [if_neg (by decide)] at z; exact z
    have hat : 0 < p.length → ∃ c, p.cps[0]? = some c ∧ atI p.cps.toList (0 : Int) = some c := fun h => by
      have h2 : 0 < p.cps.size := h
      refine ⟨p.cps[0], Array.getElem?_eq_getElem h2, ?_⟩
      have : p.cps.toList[0]? = some p.cps[0] := by rw [Array.getElem?_toList, Array.getElem?_eq_getElem h2]
      exact atc_of (i := 0) this
    refine ⟨_, rfl, p, rfl, hz, _, _, rfl, rfl, _, rfl, ite2 (fun h1 => iteT ?_) (fun h1 => ?_)⟩
    · have : decide ((p.length : Int) < 1) = true := h1
      exact ⟨_, rfl, no (.inl (by have := of_decide_eq_true this; (clear hz hpl; omega)))⟩
    have h1 : ¬ p.length < 1 := fun z => h1 (decide_eq_true (show (p.length : Int) < 1 by (clear hz hpl; omega)))
    refine ⟨_, rfl, p, rfl, hz, _, _, rfl, rfl, _, rfl, ite2 (fun h2 => iteT ?_) (fun h2 => ?_)⟩
    · have : decide ((2 : Int) < (p.length : Int)) = true := h2
      exact ⟨_, rfl, no (.inr (.inl (by have := of_decide_eq_true this; (clear h1 hz hpl; omega))))⟩
    have h2 : ¬ 2 < p.length := fun z => h2 (decide_eq_true (show (2 : Int) < (p.length : Int) by (clear h1 hz hpl; omega)))
    obtain ⟨c0, hc0, hat0⟩ := hat (by (clear h2 hz hpl; omega))
    have e2 : decide (V.int (p.length : Int) = V.int 2) = decide (p.length = 2) := by
      by_cases q : p.length = 2
      · rw [decide_eq_true q]; exact decide_eq_true (by rw [q]; rfl)
      · rw [decide_eq_false q]; exact decide_eq_false (fun z => q (by injection z with z; (clear q h2 h1 hz hpl; omega)))
    have e3 : decide (V.str ⟨#[c0]⟩ = V.str (Str.ofString "0")) = decide (c0 = 48) := by
      have e0 : Str.ofString "0" = ⟨#[48]⟩ := by decide +kernel
      rw [e0]
      by_cases q : c0 = 48
      · rw [decide_eq_true q]; exact decide_eq_true (by rw [q])
      · rw [decide_eq_false q]; exact decide_eq_false (fun z => q (by simpa using z))
    refine ⟨_, rfl, p, rfl, hz, rfl, _, rfl, ite4 (S := ¬ (p.length = 2 ∧ p.cps[0]? = some 48)) (fun hn => iteF ?_) (fun hb => ?_) (fun hB hb => ⟨_, rfl, p, _, c0, rfl, rfl, hz, hat0, rfl, _, rfl, ite2 (fun h4 => ?_) (fun h4 => e1 (hB ?_))⟩)⟩
    · -- the signs
      have hn : ¬ (p.length < 1 ∨ 2 < p.length ∨ (p.length = 2 ∧ p.cps[0]? = some 48)) := fun z => z.elim h1 fun z => z.elim h2 hn
      have hk : nm p = if (p.cps.toList.all fun c => decide (48 ≤ c ∧ c ≤ 57)) = true then (NumText.digitsVal p.cps.toList : Int) else -1 := if_neg hn
      rw [hk] at k
      refine ⟨_, rfl, p, rfl, ?_⟩
      refine for_str (x := p) (fun i σ H2 => ∃ v : Option V, σ = [some (.str p), v] ∧ H2 = H ∧ ∀ c ∈ p.cps.toList.take i, 48 ≤ c ∧ c ≤ 57) ⟨none, rfl, rfl, fun c hc => by simp at hc⟩ ?_ ?_
      · rintro i c σ H2 hc ⟨v, rfl, rfl, hall⟩
        have hc2 : p.cps.toList[i]? = some c := by rw [Array.getElem?_toList]; exact hc
        obtain ⟨hi, hic⟩ := List.getElem?_eq_some_iff.mp hc2
        refine ⟨_, rfl, _, _, rfl, rfl, _, rfl, ?_⟩
        rw [StrLaws.found_one, fig_mem]
        refine ite2 (fun h5 => ?_) (fun h5 => ?_)
        · have h6 : ¬ (48 ≤ c ∧ c ≤ 57) := by
            have h7 : c < 48 ∨ 57 < c := by simpa using h5
            (clear hic hi hk hn h2 h1 hz hpl; omega)
          rw [if_neg (fun z => h6 (of_decide_eq_true (List.all_eq_true.mp z c (hic ▸ List.getElem_mem hi))))] at k
          exact ⟨_, rfl, k⟩
        · have h6 : 48 ≤ c ∧ c ≤ 57 := by simpa using h5
          refine ⟨_, rfl, rfl, fun d hd => ?_⟩
          rw [List.take_succ_eq_append_getElem hi, hic] at hd
          rcases List.mem_append.mp hd with hd | hd
          · exact hall d hd
          · rw [List.mem_singleton.mp hd]; exact h6
      · rintro σ H2 ⟨v, rfl, rfl, hall⟩
        have hall : ∀ c ∈ p.cps.toList, 48 ≤ c ∧ c ≤ 57 := fun c hc => hall c (by rw [show p.cps.size = p.cps.toList.length from rfl, List.take_length]; exact hc)
        rw [if_pos (List.all_eq_true.mpr fun c hc => decide_eq_true (hall c hc))] at k
        refine ⟨_, rfl, p, _, rfl, intText_digits hall (fun z => ?_) (by (clear hk hn h1 hz hpl; omega)), by (clear hk hn h1 hz hpl; omega), k⟩
        have : p.cps.toList.length = p.length := rfl
        rw [z] at this; simp at this; (clear hk hn h2 hz hpl; omega)
    · rintro ⟨z, _⟩
      exact hb (by rw [e2]; exact decide_eq_true z)
    · refine ⟨_, rfl, no (.inr (.inr ⟨?_, ?_⟩))⟩
      · have : decide (p.length = 2) = true := by rw [← e2]; exact hb
        exact of_decide_eq_true this
      · have : decide (c0 = 48) = true := by rw [← e3]; exact h4
        rw [hc0, of_decide_eq_true this]
    · rintro ⟨_, z⟩
      rw [hc0] at z
      exact h4 (by show decide (V.str ⟨#[c0]⟩ = V.str (Str.ofString "0")) = true; rw [e3]; exact decide_eq_true (Option.some.inj z))
end
end K15

namespace K15
open PySem L2 Exc
theorem rises_pwb (b : Int) : ∀ (ys : List Int) (p : Int), rises b p ys = true → (∀ y ∈ ys, p < y ∧ y < b) ∧ ys.Pairwise (· < ·)
  | [], p, _ => ⟨fun y hy => (nomatch hy), .nil⟩
  | y :: ys, p, h => by
    rw [rises] at h
    split at h
    · cases h
    · rename_i q
      obtain ⟨h1, h2⟩ := rises_pwb b ys y h
      refine ⟨fun z hz => ?_, List.pairwise_cons.mpr ⟨fun z hz => (h1 z hz).1, h2⟩⟩
      rcases List.mem_cons.mp hz with rfl | hz
      · exact ⟨by omega, by omega⟩
      · have := h1 z hz; exact ⟨by omega, this.2⟩
theorem fam_nd : ∀ {n : Nat} {F seen : List (List Int)}, famGo n seen F = true → F.Nodup ∧ ∀ x ∈ F, x ∉ seen
  | _, [], _, _ => ⟨.nil, fun x hx => (nomatch hx)⟩
  | n, y :: F, seen, h => by
    rw [famGo] at h
    split at h
    · cases h
    · split at h
      · cases h
      · rename_i h2
        obtain ⟨q1, q2⟩ := fam_nd h
        refine ⟨List.nodup_cons.mpr ⟨fun z => q2 y z (by simp), q1⟩, fun x hx => ?_⟩
        rcases List.mem_cons.mp hx with rfl | hx
        · exact fun z => h2 (.inl z)
        · exact fun z => q2 x hx (List.mem_append_left _ z)
theorem fam_up2 {F : List (List Int)} (h : isFam F = true) : F.length ≤ 200 ∧ (∀ x ∈ F, x.length = (F.headD []).length ∧ 1 ≤ x.length ∧ x.length ≤ 6 ∧ rises 12 (-1) x = true) ∧ F.Nodup := by
  unfold isFam at h
  rw [Bool.and_eq_true] at h
  exact ⟨of_decide_eq_true h.1, fun x hx => ⟨(fam_go h.2 x hx).1, (fam_go h.2 x hx).2.1, (fam_go h.2 x hx).2.2, fam_up h.2 x hx⟩, (fam_nd h.2).1⟩
noncomputable def okN (ns : List Int) : Prop := ns.Pairwise (· < ·) ∧ (∀ a ∈ ns, 0 ≤ a ∧ a ≤ 11) ∧ 1 ≤ ns.length ∧ ns.length ≤ 6
theorem rises_mk : ∀ {ns : List Int} {p : Int}, ns.Pairwise (· < ·) → (∀ a ∈ ns, p < a ∧ a ≤ 11) → rises 12 p ns = true
  | [], _, _, _ => rfl
  | a :: ns, p, h, q => by
    have h2 := List.pairwise_cons.mp h
    have qa := q a (by simp)
    rw [rises, if_neg (by omega)]
    exact rises_mk h2.2 fun b hb => ⟨h2.1 b hb, (q b (List.mem_cons_of_mem _ hb)).2⟩
theorem okN.rises {ns : List Int} (h : okN ns) : rises 12 (-1) ns = true := rises_mk h.1 fun a ha => by have := h.2.1 a ha; omega
theorem allS_map {α β : Type} {f : α → Option β} {g : α → β} : ∀ {l : List α}, (∀ a ∈ l, f a = some (g a)) → allS f l = some (l.map g)
  | [], _ => rfl
  | a :: l, h => by
    show ((f a).bind fun x => (allS f l).map fun xs => x :: xs) = _
    rw [h a (by simp), allS_map fun b hb => h b (List.mem_cons_of_mem _ hb)]; rfl
theorem okN.rd {w : Str} (h : okN ((Txt.split w (Str.ofString ".")).map nm)) : rdW w = some ((Txt.split w (Str.ofString ".")).map nm) :=
  allS_map fun p hp => by
    have := h.2.1 (nm p) (List.mem_map.mpr ⟨p, hp, rfl⟩)
    exact rd_nm this.1 this.2
theorem pair_nm {ps : List Str} {xs : List Int} (h : Paired (fun p x => rdP p = some x) ps xs) : ps.map nm = xs := by
  induction h with
  | nil => rfl
  | cons r t ih => rw [List.map_cons, ih, nm_rd r]
theorem pair_mem {α β : Type} {R : α → β → Prop} {as : List α} {bs : List β} (h : Paired R as bs) {a : α} (ha : a ∈ as) : ∃ b ∈ bs, R a b := by
  induction h with
  | nil => simp at ha
  | cons r t ih =>
    rcases List.mem_cons.mp ha with rfl | ha
    · exact ⟨_, by simp, r⟩
    · obtain ⟨b, hb, q⟩ := ih ha
      exact ⟨b, List.mem_cons_of_mem _ hb, q⟩
theorem rdT_ne {t : Str} (h : ¬ t = Str.ofString "") : rdT t = (allS rdW (Txt.split t (Str.ofString " "))).bind fun F => if isFam F = true then some F else none := if_neg h
theorem word_ok {t w : Str} {F : List (List Int)} (h : ¬ t = Str.ofString "") (hF : rdT t = some F) (hw : w ∈ Txt.split t (Str.ofString " ")) : okN ((Txt.split w (Str.ofString ".")).map nm) := by
  rw [rdT_ne h] at hF
  cases q : allS rdW (Txt.split t (Str.ofString " ")) with
  | none => rw [q] at hF; cases hF
  | some F' =>
    rw [q] at hF
    have hF : (if isFam F' = true then some F' else none) = some F := hF
    by_cases c : isFam F' = true
    · obtain ⟨xs, hx, hr⟩ := pair_mem (allS_pair q) hw
      have e := pair_nm (allS_pair hr)
      rw [e]
      obtain ⟨_, h2, h3, h4⟩ := (fam_up2 c).2.1 xs hx
      obtain ⟨h5, h6⟩ := rises_pwb 12 xs _ h4
      exact ⟨h6, fun a ha => by have := h5 a ha; (clear h3 h2; omega), h2, h3⟩
    · rw [if_neg c] at hF; cases hF
theorem no_word {t w : Str} (h : ¬ t = Str.ofString "") (hw : w ∈ Txt.split t (Str.ofString " ")) (hn : ¬ okN ((Txt.split w (Str.ofString ".")).map nm)) : rdT t = none := by
  cases q : rdT t with
  | none => rfl
  | some F => exact absurd (word_ok h q hw) hn
theorem few_nm {ps : List Str} : ∀ G : List Int, G.Nodup → (∀ x ∈ G, x ∈ ps.map nm) → G.length ≤ 299 := fun G hn hs => by
  have h1 : G.length ≤ ((List.range 101).map fun i : Nat => (i : Int) - 1).length := List.Nodup.length_le_of_subset hn fun x hx => by
    obtain ⟨p, _, rfl⟩ := List.mem_map.mp (hs x hx)
    have := nm_range p
    exact List.mem_map.mpr ⟨(nm p + 1).toNat, List.mem_range.mpr (by omega), by omega⟩
  rw [List.length_map, List.length_range] at h1
  omega
theorem okN.sorted {ns ms : List Int} (h : okN ns) (hn : ms.Nodup) (hm : ∀ x, x ∈ ms ↔ x ∈ ns) (hs : ms.Pairwise (· ≤ ·)) : ns = ms := by
  have nN : ns.Nodup := List.nodup_iff_pairwise_ne.mpr (h.1.imp fun {a b} q z => by omega)
  exact sorted_uniq ((List.perm_ext_iff_of_nodup nN hn).mpr fun x => (hm x).symm) (h.1.imp fun {a b} q => by omega) hs
theorem okN_mk {ns : List Int} (hn : ns.Nodup) (hs : ns.Pairwise (· ≤ ·)) {a z : Int} {r i : List Int} (e1 : ns = a :: r) (e2 : ns = i ++ [z]) (h0 : 0 ≤ a) (h11 : z ≤ 11) (h6 : ns.length ≤ 6) : okN ns := by
  have hlt : ns.Pairwise (· < ·) := by
    rw [List.nodup_iff_pairwise_ne] at hn
    exact (List.pairwise_and_iff.mpr ⟨hn, hs⟩).imp fun {a b} q => by have := q.1; have := q.2; (clear this h6 h11 h0; omega)
  refine ⟨hlt, fun b hb => ⟨?_, ?_⟩, by rw [e1]; simp, h6⟩
  · rw [e1] at hb hs
    rcases List.mem_cons.mp hb with rfl | hb
    · exact h0
    · have := (List.pairwise_cons.mp hs).1 b hb; (clear h6 h11; omega)
  · rw [e2] at hb hs
    rcases List.mem_append.mp hb with hb | hb
    · have := (List.pairwise_append.mp hs).2.2 b hb z (by simp); (clear h6 h0; omega)
    · rw [List.mem_singleton.mp hb]; exact h11
theorem at_lastV (xs : List V) (z : V) : atI (xs ++ [z]) (-1) = some z := by
  unfold atI ixN
  rw [if_neg (by decide), if_pos (by rw [List.length_append]; show _ ≤ _; simp; omega)]
  rw [List.length_append]
  have : ((-1 : Int) + ((xs.length + [z].length : Nat) : Int)).toNat = xs.length := by show ((-1 : Int) + ((xs.length + 1 : Nat) : Int)).toNat = _; omega
  first
    | (simp only [this]; simp)
    | (rw [this]; simp)
noncomputable def BT (t : Str) : Prop := t.length ≤ 80000 ∧ (Txt.split t (Str.ofString " ")).length ≤ 299
noncomputable def spDu : Sp := fun vs H Q _ => ∃ (t : Str), vs = [.str t] ∧ BT t ∧ (rdT t = none → ∀ H2, Same H H2 → Q .non H2) ∧
  (∀ F, rdT t = some F → ∀ (l : Addr) (as : List Addr) (H2 : Hp), Same H H2 → H l = none → H2 l = some (.lst (as.map V.ref)) → TupsH H2 as F → Q (.ref l) H2)
theorem nodup_of : ∀ {F G : List (List Int)}, G.Nodup → (∀ x ∈ G, x ∈ F) → F.length ≤ G.length → F.Nodup
  | [], _, _, _, _ => .nil
  | a :: F, G, hG, hs, hl => by
    rw [List.length_cons] at hl
    have na : a ∉ F := fun ha => by
      have : G.length ≤ F.length := List.Nodup.length_le_of_subset hG fun x hx => by
        rcases List.mem_cons.mp (hs x hx) with rfl | h
        · exact ha
        · exact h
      omega
    refine List.nodup_cons.mpr ⟨na, nodup_of (G := G.erase a) (hG.erase a) (fun x hx => ?_) ?_⟩
    · obtain ⟨h1, h2⟩ := hG.mem_erase_iff.mp hx
      exact (List.mem_cons.mp (hs x h2)).resolve_left h1
    · rw [List.length_erase]
      split <;> omega
theorem nodup_len {F G : List (List Int)} (hG : G.Nodup) (hm : ∀ x, x ∈ G ↔ x ∈ F) : (F.Nodup → G.length = F.length) ∧ (F.length ≤ G.length → F.Nodup) :=
  ⟨fun hF => ((List.perm_ext_iff_of_nodup hG hF).mpr hm).length_eq, fun hl => nodup_of hG (fun x hx => (hm x).mp hx) hl⟩
section
variable {P : Program} {w : World} {K : PySem.W.Frag} {mg : Str → Option Value} {base : Heap}
theorem sc__law_due : FnScope ["text", "family", "word", "one"] ["text"] (defScope (top 28)) := ⟨rfl, rfl, rfl, by decide +kernel, rfl, by decide +kernel, by decide +kernel⟩
set_option maxHeartbeats 8000000 in
theorem ok__law_due {f : Addr} {fd : FuncData} (F : Fun K "_law_due" "_law_due" (top 28) f fd) (B : Bt mg) (c__law_number : Cal P w K mg base "_law_number" 2 spNu) : FnOk P w K mg base CX0 5 f fd ["text"] spDu := by
  have nd := sc__law_due.nd
  refine F.ok sc__law_due (fun vs H Q E h => ?_) (fun cdv A outer s H vs Q E hr h => ?_)
  · obtain ⟨t, rfl, _⟩ := h
    rfl
  · obtain ⟨tx, rfl, ⟨htl, hwn⟩, kN, kQ⟩ := h
    have hu := hr.units
    refine ⟨_, (pss_cons (ps_if (pt_cmpR op_eq (pv 0) pe_str (nomark _)) (pss_one (ps_ret (pe_lst pa_nil))) pss_nil)
        (pss_cons (ps_set (i := 1) nd rfl (Or.inl rfl) (pe_lst pa_nil))
        (pss_cons (ps_for PassesOwn.never rfl (pi_list (pe_bm PySem.F.plainAttrs_str PySem.F.slot_str_split PySem.F.type_str_split mt_split (pv 0) (pa_cons pe_str pa_nil))) (pg_name (i := 2) nd rfl (Or.inl rfl)) (pss_cons (ps_comp (i := 3) ["part"] [] ⟨rfl, by decide +kernel, by decide +kernel, of_decide_eq_true (by kernel_rfl), fun j hj => (nomatch hj)⟩ rfl (gown_name (by decide)) nd rfl rfl rfl (pi_list (pe_bm PySem.F.plainAttrs_str PySem.F.slot_str_split PySem.F.type_str_split mt_split (pv 2) (pa_cons pe_str pa_nil))) (fun _ _ _ _ => (pg_name (i := 0) (show (["part"] : List Str).Nodup from by decide +kernel) rfl (Or.inl rfl) (.inr rfl))) (fun _ _ _ _ => pifs_nil) (fun _ _ _ _ => (pe_cal c__law_number (hr.mono (by decide)) rfl (pa_cons (pv 0) pa_nil))))
        (pss_cons (ps_if (PW.pt (pw_or (pt_cmpR (op_neK (K := K) hu) (pv 3) (pe_sortedSetI rfl rfl B.sorted rfl B.set (pv 3)) (nomark _)) (pw_or (pt_cmpR op_lt (pe_ix (r := rIxL K) ix_list (pv 3) pe_int (fun _ _ => rfl)) pe_int (nomark _)) (pw_or (pt_cmpR op_gt (pe_ix (r := rIxL K) ix_list (pv 3) (pe_un un_neg pe_int) (fun _ _ => rfl)) pe_int (nomark _)) (pw_or1 (pt_cmpR op_gt (pe_callB call_len_seq rfl B.len PySem.boot_len (pa_cons (pv 3) pa_nil)) pe_int (nomark _))))))) (pss_one (ps_ret pe_non)) pss_nil)
        (pss_one (ps_expr (pe_bm PySem.F.plainAttrs_list PySem.F.slot_list_append PySem.F.type_list_append mt_append (pv 1) (pa_cons (pe_callTy call_tuple_of rfl B.tuple b_tuple (pa_cons (pv 3) pa_nil)) pa_nil)))))))
        (pss_cons (ps_for PassesOwn.never rfl (pi_list (pv 1)) (pg_name (i := 3) nd rfl (Or.inl rfl)) (pss_one (ps_if (pt_cmpR op_ne (pe_callB call_len_seq rfl B.len PySem.boot_len (pa_cons (pv 3) pa_nil)) (pe_callB call_len_seq rfl B.len PySem.boot_len (pa_cons (pe_ix (r := rIxL K) ix_list (pv 1) pe_int (fun _ _ => rfl)) pa_nil)) (nomark _)) (pss_one (ps_ret pe_non)) pss_nil)))
        (pss_cons (ps_if (PW.pt (pw_or (pt_cmpR op_lt (pe_lenSet rfl hu rfl B.len rfl B.set (pv 1)) (pe_callB call_len_seq rfl B.len PySem.boot_len (pa_cons (pv 1) pa_nil)) (nomark _)) (pw_or1 (pt_cmpR op_gt (pe_callB call_len_seq rfl B.len PySem.boot_len (pa_cons (pv 1) pa_nil)) pe_int (nomark _))))) (pss_one (ps_ret pe_non)) pss_nil)
        (pss_one (ps_ret (pv 1)))))))), ?_⟩
    refine ⟨_, rfl, rfl, _, rfl, ite2 (fun h1 => ?_) (fun h1 => ?_)⟩
    · have e : tx = Str.ofString "" := by
        have := of_decide_eq_true h1
        injection this
      have er : rdT tx = some [] := if_pos e
      exact ⟨Nat.zero_le _, fun l hl => kQ [] er l [] _ (upd_fresh hl) hl upd_same .nil⟩
    have hne : ¬ tx = Str.ofString "" := fun z => h1 (decide_eq_true (by rw [z]))
    have er := rdT_ne hne
    refine ⟨Nat.zero_le _, fun L hL => ?_⟩
    refine ⟨_, rfl, rfl, _, _, rfl, rfl, by decide +kernel, by (clear hu hwn; omega), fun sp hsp => ?_⟩
    have hpt : ∀ w ∈ Txt.split tx (Str.ofString " "), w.length ≤ 80000 := fun w hw => by
      rw [blank_eq] at hw
      have := split_part hw; (clear hu hwn; omega)
    have hno : ∀ w ∈ Txt.split tx (Str.ofString " "), ¬ okN ((Txt.split w (Str.ofString ".")).map nm) → ∀ H2, Same H H2 → Q .non H2 := fun w hw hn => kN (no_word hne hw hn)
    have hnN : ∀ F, allS rdW (Txt.split tx (Str.ofString " ")) = some F → isFam F = false → ∀ H2, Same H H2 → Q .non H2 := fun F hF hf => kN (by rw [er, hF]; exact if_neg (by rw [hf]; decide))
    have hyY : ∀ F, allS rdW (Txt.split tx (Str.ofString " ")) = some F → isFam F = true → rdT tx = some F := fun F hF hf => by rw [er, hF]; exact if_pos hf
    have hwp : 1 ≤ (Txt.split tx (Str.ofString " ")).length := PyProof.Rows.split_pos tx (Str.ofString " ")
    clear kN er
    revert hwn hsp hpt hno hnN hyY hwp
    generalize Txt.split tx (Str.ofString " ") = ws
    intro hwn hsp hpt hno hnN hyY hwp
    have nLs : L ≠ sp := fun z => by rw [← z, upd_same] at hsp; cases hsp
    have s0 : Same H (upd (upd H L (.lst [])) sp (.lst (ws.map V.str))) := (upd_fresh hL).trans (upd_fresh hsp)
    refine ⟨sp, rfl, ⟨_, .inl (.inl upd_same)⟩, ?_⟩
    refine for_list (K := K) (a := sp) (xs := ws.map V.str) (fun i σ Hj => ∃ (v2 v3 : Option V) (bs : List Addr) (F : List (List Int)), σ = [some (.str tx), some (.ref L), v2, v3] ∧ Same H Hj ∧ Hj sp = some (.lst (ws.map V.str)) ∧ Hj L = some (.lst (bs.map V.ref)) ∧ TupsH Hj bs F ∧ allS rdW (ws.take i) = some F ∧ ∀ x ∈ F, okN x)
      ⟨none, none, [], [], rfl, s0, upd_same, by rw [upd_ne nLs, upd_same]; rfl, .nil, rfl, fun x hx => (nomatch hx)⟩ (fun i σ Hj _ ⟨_, _, _, _, _, _, e, _⟩ => .inl (.inl e)) ?_ ?_
    · rintro i y σ Hj hy ⟨v2, v3, bs, F, rfl, s4, hsp4, hL4, hT4, hF4, hok⟩
      rw [List.getElem?_map] at hy
      obtain ⟨wd, ha, rfl⟩ := Option.map_eq_some_iff.mp hy
      obtain ⟨hi, hia⟩ := List.getElem?_eq_some_iff.mp ha
      have hwm : wd ∈ ws := hia ▸ List.getElem_mem hi
      have hwl := hpt wd hwm
      have hFl := allS_len hF4
      refine ⟨_, rfl, rfl, _, _, rfl, rfl, by decide +kernel, by (clear hFl nLs hwp hwn hu htl; omega), fun sp2 hsp2 => ?_⟩
      have hpl := PyProof.Rows.split_le wd (Str.ofString ".")
      have hpp : 1 ≤ (Txt.split wd (Str.ofString ".")).length := PyProof.Rows.split_pos wd (Str.ofString ".")
      have hpt2 : ∀ p ∈ Txt.split wd (Str.ofString "."), p.length ≤ 90000 := fun p hp => by
        rw [dot_eq] at hp
        have := split_part hp; (clear hpp hpl hFl nLs hwp hwn hu htl; omega)
      have hno := hno wd hwm
      have hrd : okN ((Txt.split wd (Str.ofString ".")).map nm) → rdW wd = some ((Txt.split wd (Str.ofString ".")).map nm) := okN.rd
      revert hpl hpp hpt2 hno hrd hsp2
      generalize Txt.split wd (Str.ofString ".") = ps
      intro hsp2 hpl hpp hpt2 hno hrd
      have s5 : Same Hj (upd Hj sp2 (.lst (ps.map V.str))) := upd_fresh hsp2
      have hsp5 : (upd Hj sp2 (.lst (ps.map V.str))) sp2 = some (.lst (ps.map V.str)) := upd_same
      revert s5 hsp5
      generalize upd Hj sp2 (.lst (ps.map V.str)) = Hk
      intro s5 hsp5
      refine ⟨sp2, rfl, ⟨_, .inl (.inl hsp5)⟩, fun D hD => ?_⟩
      refine comps_by ps.length (fun j Hl => Same Hk Hl ∧ Hl D = some (.lst (((ps.take j).map nm).map V.int))) ⟨upd_fresh hD, upd_same⟩ ?_ ?_
      · rintro Hl ⟨s6, gD⟩
        rw [List.take_length] at gD
        have hnl : (ps.map nm).length = ps.length := List.length_map _
        have few := few_nm (ps := ps)
        refine ⟨⟨_, s6.seq (.inl (.inl hsp5)), by rw [List.length_map]; exact Nat.le_refl _⟩, ?_⟩
        have s46 : Same H Hl := (s4.trans s5).trans s6
        have gL := (s5.trans s6) _ _ hL4
        have gsp := (s5.trans s6) _ _ hsp4
        have hT6 := hT4.same (s5.trans s6)
        have nDL : D ≠ L := fun z => by rw [z, s5 _ _ hL4] at hD; cases hD
        have nDs : D ≠ sp := fun z => by rw [z, s5 _ _ hsp4] at hD; cases hD
        revert gD hnl few hno hrd
        generalize ps.map nm = ns
        intro hno hrd gD hnl few
        refine ⟨_, rfl, _, rfl, D, ns, rfl, .inl (.inl gD), few, fun lm ms hlm hms hmm hmo => ?_⟩
        have dp : ∀ xs : List Int, 0 < dep (.l (xs.map Dt.i)) ∧ dep (.l (xs.map Dt.i)) ≤ 60 := fun xs => by rw [dep, deps_i]; decide
        have s7 : Same Hl (upd Hl lm (.lst (ms.map V.int))) := upd_fresh hlm
        have glm : (upd Hl lm (.lst (ms.map V.int))) lm = some (.lst (ms.map V.int)) := upd_same
        have gD7 := s7 _ _ gD
        have gL7 := s7 _ _ gL
        have gsp7 := s7 _ _ gsp
        have hT7 := hT6.same s7
        have s47 := s46.trans s7
        revert glm gD7 gL7 gsp7 hT7 s47
        generalize upd Hl lm (.lst (ms.map V.int)) = Hm
        intro glm gD7 gL7 gsp7 hT7 s47
        refine ⟨.l (ns.map Dt.i), .l (ms.map Dt.i), ⟨D, _, rfl, .inl (.inl gD7), atDs_i ns⟩, ⟨lm, _, rfl, .inl (.inl glm), atDs_i ms⟩, likes_i ns ms, (dp ns).1, (dp ns).2, _, rfl, ?_⟩
        show if (!deq (.l (ns.map Dt.i)) (.l (ms.map Dt.i))) = true then _ else _
        rw [deq, deqs_i]
        by_cases q1 : ns = ms
        rotate_left
        · rw [decide_eq_false q1]
          refine (iteT (iteT ?_) : if (!false) = true then _ else _)
          exact hno (fun z => q1 (z.sorted hms hmm hmo)) Hm s47
        rw [decide_eq_true q1]
        refine (iteF ?_ : if (!true) = true then _ else _)
        obtain ⟨a0, r0, e0⟩ : ∃ a0 r0, ns = a0 :: r0 := by
          cases ns with
          | nil => simp at hnl; (clear nDs nDL hpl hFl hwl nLs hwp hwn hu htl; omega)
          | cons a r => exact ⟨a, r, rfl⟩
        obtain ⟨i0, z0, e9⟩ : ∃ i0 z0, ns = i0 ++ [z0] := by
          have hne0 : ns ≠ [] := by rw [e0]; simp
          exact ⟨ns.dropLast, ns.getLast hne0, (List.dropLast_concat_getLast hne0).symm⟩
        have at0 : atI (ns.map V.int) (0 : Int) = some (.int a0) := at_of (i := 0) (by rw [e0]; rfl)
        have at9 : atI (ns.map V.int) (-1 : Int) = some (.int z0) := by rw [e9, List.map_append]; exact at_lastV _ _
        refine ⟨_, rfl, D, _, _, _, rfl, rfl, .inl (.inl gD7), at0, _, _, rfl, rfl, _, rfl, ite2 (fun h2 => iteT ?_) (fun h2 => ?_)⟩
        · have h2 : a0 < 0 := of_decide_eq_true h2
          exact hno (fun z => by have := (z.2.1 a0 (by rw [e0]; simp)).1; (clear hnl nDs nDL hpp hpl hFl hwl nLs hwp hwn hu htl; omega)) Hm s47
        have h2 : 0 ≤ a0 := by have : ¬ a0 < 0 := fun z => h2 (decide_eq_true z); (clear hnl nDs nDL hpp hpl hFl hwl nLs hwp hwn hu htl; omega)
        refine ⟨_, rfl, _, rfl, D, _, _, _, rfl, rfl, .inl (.inl gD7), at9, _, _, rfl, rfl, _, rfl, ite2 (fun h3 => iteT ?_) (fun h3 => ?_)⟩
        · have h3 : 11 < z0 := of_decide_eq_true h3
          exact hno (fun z => by have := (z.2.1 z0 (by rw [e9]; simp)).2; (clear h2 hnl nDs nDL hpp hpl hFl hwl nLs hwp hwn hu htl; omega)) Hm s47
        have h3 : z0 ≤ 11 := by have : ¬ 11 < z0 := fun z => h3 (decide_eq_true z); (clear h2 hnl nDs nDL hpp hpl hFl hwl nLs hwp hwn hu htl; omega)
        refine ⟨_, rfl, D, _, rfl, .inl (.inl (.inl gD7)), _, _, rfl, rfl, _, rfl, ite2 (fun h4 => ?_) (fun h4 => ?_)⟩
        · have h4 : (6 : Int) < ((ns.map V.int).length : Nat) := of_decide_eq_true h4
          rw [List.length_map] at h4
          exact hno (fun z => by have := z.2.2.2; (clear h3 h2 hnl nDs nDL hpp hpl hFl hwl nLs hwp hwn hu htl; omega)) Hm s47
        have h4 : ns.length ≤ 6 := by
          have : ¬ (6 : Int) < ((ns.map V.int).length : Nat) := fun z => h4 (decide_eq_true z)
          rw [List.length_map] at this; (clear h3 h2 hnl nDs nDL hpp hpl hFl hwl nLs hwp hwn hu htl; omega)
        have hokn : okN ns := okN_mk (q1 ▸ hms) (q1 ▸ hmo) e0 e9 h2 h3 h4
        refine ⟨_, rfl, .inl ⟨rfl, _, .inl (.inl gL7)⟩, _, rfl, D, _, rfl, .inl ⟨.inl (.inl gD7), fun t ht => ?_⟩⟩
        have nt : t ≠ L := fun z => by rw [z, gL7] at ht; cases ht
        have st := upd_fresh ht (o := .tup (ns.map V.int))
        refine ⟨L, _, _, rfl, rfl, st _ _ gL7, (by rw [List.length_map, hT7.len, hFl, List.length_take]; exact big1 (by (clear nt h4 h3 h2 hnl nDs nDL hpp hpl hFl hwl nLs hwp hu htl; omega))), ?_⟩
        refine ⟨_, _, bs ++ [t], F ++ [ns], rfl, same_put (s47.trans st) hL, by rw [upd_ne nLs.symm]; exact st _ _ gsp7, by rw [upd_same, List.map_append]; rfl, ?_, ?_, fun x hx => ?_⟩
        · refine ((hT7.same st).put (st _ _ gL7)).snoc ?_
          rw [upd_ne nt, upd_same]
        · rw [List.take_succ_eq_append_getElem hi, hia]
          exact allS_snoc (hrd hokn) hF4
        · rcases List.mem_append.mp hx with hx | hx
          · exact hok x hx
          · rw [List.mem_singleton.mp hx]; exact hokn
      · rintro j Hl hj ⟨s6, gD⟩
        have hx : (ps.map V.str)[j]? = some (.str ps[j]) := by rw [List.getElem?_map, List.getElem?_eq_getElem hj]; rfl
        refine ⟨⟨_, _, s6.seq (.inl (.inl hsp5)), hx⟩, ?_⟩
        rintro x H' ⟨rfl, hy2⟩
        have ey := hy2 _ (s6.seq (.inl (.inl hsp5)))
        rw [hx] at ey
        cases ey
        unfold gName
        refine yes_go ?_
        refine ⟨_, rfl, ps[j], rfl, hpt2 _ (List.getElem_mem hj), ?_⟩
        refine ⟨_, gD, (by rw [List.length_map, List.length_map, List.length_take]; exact big1 (by (clear hpp hFl nLs hwp hwn hu htl; omega))), _, by (clear hpp hpl hFl hwl nLs hwp hwn hu htl; omega), rfl, hj, same_put s6 hD, ?_⟩
        rw [upd_same, List.take_succ_eq_append_getElem hj, List.map_append, List.map_append]
        rfl
    · rintro σ Hj ⟨v2, v3, bs, F, rfl, s4, hsp4, hL4, hT4, hF4, hok⟩
      rw [List.length_map, List.take_length] at hF4
      have hFl := allS_len hF4
      have hbl := hT4.len
      have hnN := hnN F hF4
      obtain ⟨x0, r0, e0⟩ : ∃ x0 r0, F = x0 :: r0 := by
        cases F with
        | nil => simp at hFl; (clear hbl nLs hwn hu htl; omega)
        | cons a r => exact ⟨a, r, rfl⟩
      obtain ⟨a0, c0, eb⟩ : ∃ a0 c0, bs = a0 :: c0 := by
        cases bs with
        | nil => rw [e0] at hbl; simp at hbl
        | cons a r => exact ⟨a, r, rfl⟩
      have hb0 : Hj a0 = some (.tup (x0.map V.int)) := by
        obtain ⟨xs, hx1, hx2⟩ := hT4.at (i := 0) (a := a0) (by rw [eb]; rfl)
        rw [e0] at hx1
        cases hx1
        exact hx2
      have hat0 : atI (bs.map V.ref) (0 : Int) = some (.ref a0) := at_of (i := 0) (by rw [eb]; rfl)
      refine ⟨_, rfl, L, rfl, ⟨_, .inl (.inl hL4)⟩, ?_⟩
      refine for_list (K := K) (a := L) (xs := bs.map V.ref) (fun i σ H2 => ∃ (v2 v3 : Option V), σ = [some (.str tx), some (.ref L), v2, v3] ∧ H2 = Hj ∧ ∀ x ∈ F.take i, x.length = x0.length) ⟨v2, v3, rfl, rfl, fun x hx => by simp at hx⟩ (fun i σ H2 _ ⟨_, _, _, e, _⟩ => .inl (.inl (e ▸ hL4))) ?_ ?_
      · rintro i y σ H2 hy ⟨v2, v3, rfl, rfl, hall⟩
        rw [List.getElem?_map] at hy
        obtain ⟨a, ha, rfl⟩ := Option.map_eq_some_iff.mp hy
        obtain ⟨xs, hx, hH⟩ := hT4.at ha
        obtain ⟨hi, hix⟩ := List.getElem?_eq_some_iff.mp hx
        have hxm : xs ∈ F := hix ▸ List.getElem_mem hi
        refine ⟨_, rfl, a, _, rfl, .inr (.inl (.inl hH)), _, rfl, L, _, _, _, rfl, rfl, .inl (.inl hL4), hat0, a0, _, rfl, .inr (.inl (.inl hb0)), rfl, _, rfl, ite2 (fun h4 => ?_) (fun h4 => ?_)⟩
        · refine hnN ?_ H2 s4
          cases hf : isFam F with
          | false => rfl
          | true =>
            exfalso
            have h5 := ((fam_up2 hf).2.1 xs hxm).1
            have h6 := ((fam_up2 hf).2.1 x0 (by rw [e0]; simp)).1
            rw [List.length_map, List.length_map, h5, h6] at h4
            simp at h4
        · refine ⟨_, _, rfl, rfl, fun x hx => ?_⟩
          rw [List.take_succ_eq_append_getElem hi, hix] at hx
          rcases List.mem_append.mp hx with hx | hx
          · exact hall x hx
          · rw [List.mem_singleton.mp hx]
            rw [List.length_map, List.length_map] at h4
            have : ¬ ((!decide (V.int ((xs.length : Nat) : Int) = V.int ((x0.length : Nat) : Int))) = true) := h4
            by_cases q : xs.length = x0.length
            · exact q
            · exact absurd (by rw [decide_eq_false (fun z => q (by injection z with z; (clear q hbl hFl nLs hwp hwn hu htl; omega)))]; rfl) this
      · rintro σ H2 ⟨v2, v3, rfl, rfl, hall⟩
        rw [List.length_map, hbl, List.take_length] at hall
        refine ⟨_, rfl, L, bs, F, rfl, .inl (.inl hL4), hT4.at', by (clear hbl nLs hwp hu htl; omega), fun G hGn hGm => ?_⟩
        obtain ⟨g1, g2⟩ := nodup_len hGn hGm
        refine ⟨_, rfl, L, _, rfl, .inl (.inl (.inl hL4)), _, _, rfl, rfl, _, rfl, ite2 (fun h5 => iteT ?_) (fun h5 => ?_)⟩
        · have h5 : ((G.length : Nat) : Int) < ((bs.map V.ref).length : Nat) := of_decide_eq_true h5
          rw [List.length_map, hbl] at h5
          refine hnN ?_ H2 s4
          cases hf : isFam F with
          | false => rfl
          | true => have := g1 (fam_up2 hf).2.2; (clear hbl hFl nLs hwp hwn hu htl; omega)
        have h5 : F.length ≤ G.length := by
          have : ¬ ((G.length : Nat) : Int) < ((bs.map V.ref).length : Nat) := fun z => h5 (decide_eq_true z)
          rw [List.length_map, hbl] at this; (clear hbl hFl nLs hwp hwn hu htl; omega)
        refine ⟨_, rfl, L, _, rfl, .inl (.inl (.inl hL4)), _, _, rfl, rfl, _, rfl, ite2 (fun h6 => ?_) (fun h6 => ?_)⟩
        · have h6 : (200 : Int) < ((bs.map V.ref).length : Nat) := of_decide_eq_true h6
          rw [List.length_map, hbl] at h6
          refine hnN ?_ H2 s4
          cases hf : isFam F with
          | false => rfl
          | true => have := (fam_up2 hf).1; (clear h5 hbl hFl nLs hwp hwn hu htl; omega)
        have h6 : F.length ≤ 200 := by
          have : ¬ (200 : Int) < ((bs.map V.ref).length : Nat) := fun z => h6 (decide_eq_true z)
          rw [List.length_map, hbl] at this; (clear h5 hbl hFl nLs hwp hwn hu htl; omega)
        have hx0 := hok x0 (by rw [e0]; simp)
        have hfam : isFam F = true := fam_of (n := x0.length) hx0.2.2.1 hx0.2.2.2 h6 (fun x hx => ⟨hall x hx, (hok x hx).rises⟩) (g2 h5)
        exact ⟨_, rfl, kQ F (hyY F hF4 hfam) L bs H2 s4 hL hL4 hT4⟩
end
end K15

namespace K15
open PySem L2 Exc
theorem TupsH.take_ {H : Hp} : ∀ {as : List Addr} {F : List (List Int)} (n : Nat), TupsH H as F → TupsH H (as.take n) (F.take n) ∧ TupsH H (as.drop n) (F.drop n)
  | _, _, 0, h => ⟨.nil, h⟩
  | _, _, n + 1, .nil => ⟨.nil, .nil⟩
  | _, _, n + 1, .cons r t => ⟨.cons r (TupsH.take_ n t).1, (TupsH.take_ n t).2⟩
noncomputable def bl (t : Str) : Nat := t.cps.toList.count 32
theorem jn_count : ∀ {ts : List (List Nat)}, ts ≠ [] → (∀ t ∈ ts, 32 ∉ t) → (Tx1.jn 32 ts).count 32 + 1 = ts.length
  | [], h, _ => absurd rfl h
  | [a], _, h => by
    show a.count 32 + 1 = 1
    rw [List.count_eq_zero.mpr (h a (by simp))]
  | a :: b :: r, _, h => by
    have ih := jn_count (ts := b :: r) (by simp) fun t ht => h t (List.mem_cons_of_mem _ ht)
    rw [Tx1.jn, List.count_append, List.count_eq_zero.mpr (h a (by simp)), List.count_cons_self, List.length_cons]
    omega
theorem words_len (t : Str) : (Txt.split t (Str.ofString " ")).length = bl t + 1 := by
  rw [blank_eq]
  have h1 := StrLaws.join_split t ⟨#[32]⟩
  have h2 := congrArg (fun z : Str => z.cps.toList) h1
  simp only [Tx1.join_cps] at h2
  have h3 := PyProof.Rows.split_pos t ⟨#[32]⟩
  have h4 := jn_count (ts := (Txt.split t ⟨#[32]⟩).map fun t => t.cps.toList) (by intro z; rw [List.map_eq_nil_iff] at z; rw [z] at h3; simp at h3) (fun x hx => by
    obtain ⟨y, hy, rfl⟩ := List.mem_map.mp hx
    exact StrLaws.split_free t 32 y hy)
  rw [h2, List.length_map] at h4
  unfold bl
  (clear h3; omega)
theorem BT_mk {t : Str} (h : t.length ≤ 80000) (hb : bl t ≤ 298) : BT t := ⟨h, by rw [words_len]; (clear h; omega)⟩
theorem bl_app (a b : Str) : bl (a ++ b) = bl a + bl b ∧ (a ++ b).length = a.length + b.length := by
  have e : (a ++ b).cps.toList = a.cps.toList ++ b.cps.toList := by
    show (a.cps ++ b.cps).toList = _
    rw [Array.toList_append]
  refine ⟨by unfold bl; rw [e, List.count_append], ?_⟩
  have := congrArg List.length e
  rw [List.length_append] at this
  exact this
theorem bl_le (a : Str) : bl a ≤ a.length := List.count_le_length
theorem bl_sub {a b : Str} (h : a.cps.toList.Sublist b.cps.toList) : bl a ≤ bl b ∧ a.length ≤ b.length := ⟨h.count_le 32, h.length_le⟩
theorem sl_to (t : Str) {n : Nat} (h : n ≤ t.length) : bl (Txt.slice t none (some (n : Int))) ≤ bl t ∧ (Txt.slice t none (some (n : Int))).length ≤ t.length := by
  have e := eq_of_beq (PyProof.Rows.slice_closes_to (x := t) (j := (n : Int)) ⟨by (clear h; omega), by show (n : Int) ≤ (t.length : Nat); omega⟩)
  rw [e]
  refine bl_sub ?_
  show (List.toArray _).toList.Sublist _
  rw [List.toList_toArray]
  exact (List.take_sublist _ _).trans (List.drop_sublist _ _)
theorem sl_from (t : Str) (n : Nat) : bl (Txt.slice t (some (n : Int)) none) ≤ bl t ∧ (Txt.slice t (some (n : Int)) none).length ≤ t.length := by
  by_cases h : n ≤ t.length
  · have e := eq_of_beq (PyProof.Rows.slice_closes_from (x := t) (i := (n : Int)) ⟨by (clear h; omega), by show (n : Int) ≤ (t.length : Nat); omega⟩)
    rw [e]
    refine bl_sub ?_
    show (List.toArray _).toList.Sublist _
    rw [List.toList_toArray]
    exact (List.take_sublist _ _).trans (List.drop_sublist _ _)
  · rw [PyProof.Rows.slice_beyond (x := t) (i := (n : Int)) (by omega)]
    exact ⟨Nat.zero_le _, Nat.zero_le _⟩
theorem bl_join {ts : List Str} (hne : ts ≠ []) (h : ∀ t ∈ ts, 32 ∉ t.cps.toList) : bl (Txt.join (Str.ofString " ") ts) + 1 = ts.length := by
  rw [blank_eq]
  have e1 : Txt.join ⟨#[32]⟩ ts = Str.join ⟨#[32]⟩ ts := StrLaws.glued_eq_join _ ts
  unfold bl
  rw [e1, Tx1.join_cps]
  have := jn_count (ts := ts.map fun t => t.cps.toList) (by simpa using hne) (fun x hx => by obtain ⟨y, hy, rfl⟩ := List.mem_map.mp hx; exact h y hy)
  rw [List.length_map] at this
  exact this
theorem join_len2 {ts : List Str} {b : Nat} (h : ∀ t ∈ ts, t.length ≤ b) : (Txt.join (Str.ofString " ") ts).length ≤ ts.length * (b + 1) := by
  rw [blank_eq]; exact join_len h
theorem tF_bl {F : List (List Int)} (h : SmF F) (hl : F.length ≤ 299) : bl (tF F) ≤ 298 ∧ (tF F).length ≤ F.length * 19 := by
  unfold tF
  refine ⟨?_, ?_⟩
  · by_cases q : F = []
    · subst q; show bl (Txt.join _ []) ≤ 298; exact Nat.le_trans (bl_le _) (by decide +kernel)
    · have := bl_join (ts := F.map wS) (by simpa using q) (fun t ht => by obtain ⟨x, hx, rfl⟩ := List.mem_map.mp ht; exact (wS_len (h x hx).1 (h x hx).2.2).2)
      rw [List.length_map] at this
      omega
  · have := join_len2 (ts := F.map wS) (b := 18) (fun t ht => by obtain ⟨x, hx, rfl⟩ := List.mem_map.mp ht; exact (wS_len (h x hx).1 (h x hx).2.2).1)
    rw [List.length_map] at this
    exact this
theorem tF_bl2 {F : List (List Int)} (h : SmF F) : bl (tF F) ≤ F.length := by
  unfold tF
  by_cases q : F = []
  · subst q; show bl (Txt.join _ []) ≤ 0; exact Nat.le_trans (bl_le _) (by decide +kernel)
  · have := bl_join (ts := F.map wS) (by simpa using q) (fun t ht => by obtain ⟨x, hx, rfl⟩ := List.mem_map.mp ht; exact (wS_len (h x hx).1 (h x hx).2.2).2)
    rw [List.length_map] at this
    omega
theorem sign_ok {z : Str} {m : Nat} {c : Int} {H : Hp} {Q : VK} (hz : z.length = m) (hm : 0 < m) (hl : m ≤ 1000) (k : ∀ y : Str, y.length = 1 → Q (.str y) H) : rIxS (.str z) (.int (c % (m : Int))) H Q := by
  obtain ⟨q, hq, hqm⟩ := mod_nat c m hm
  have h1 : q < z.cps.toList.length := by show q < z.length; (clear hq hl hm; omega)
  refine ⟨z, _, z.cps.toList[q], rfl, rfl, by rw [hz, sizeLine_eq]; (clear h1 hqm hq hm hz; omega), ?_, k _ rfl⟩
  rw [hq]
  exact atc_of (List.getElem?_eq_getElem h1)
noncomputable def spSg : Sp := fun vs H Q _ => ∃ (c : Int), vs = [.int c] ∧ ∀ y : Str, y.length = 1 → Q (.str y) H
noncomputable def spSp : Sp := fun vs H Q _ => ∃ (t : Str) (c : Int), vs = [.str t, .int c] ∧ t.length ≤ 1000 ∧ bl t ≤ 40 ∧ ∀ (t' : Str) (H2 : Hp), Same H H2 → BT t' → Q (.str t') H2
noncomputable def some14 : List Str := [Str.ofString "0", Str.ofString "11", Str.ofString "12", Str.ofString "00", Str.ofString "0.1", Str.ofString "1.0", Str.ofString "0.1.2", Str.ofString "0.0", Str.ofString "0.11", Str.ofString "0.12", Str.ofString "1_0", Str.ofString "-1", Str.ofString "0..1", Str.ofString "0.1."]
theorem some14_ok : ∀ y ∈ some14, y.length ≤ 10 ∧ 32 ∉ y.cps.toList := by decide +kernel
noncomputable def some7 : List Str := [Str.ofString "", Str.ofString " ", Str.ofString "0", Str.ofString "0.1.2.3.4.5", Str.ofString "0.1.2.3.4.5.6", Str.ofString ".", Str.ofString "0 0"]
theorem some7_ok : ∀ y ∈ some7, y.length ≤ 20 := by decide +kernel
theorem at_mem {xs : List Str} {q : Nat} (h : q < xs.length) : ∃ y ∈ xs, atI (xs.map V.str) (q : Int) = some (.str y) :=
  ⟨xs[q], List.getElem_mem h, at_of (by rw [List.getElem?_map, List.getElem?_eq_getElem h]; rfl)⟩
section
variable {P : Program} {w : World} {K : PySem.W.Frag} {mg : Str → Option Value} {base : Heap}
theorem sc__law_sign_by : FnScope ["cell", "some"] ["cell"] (defScope (top 25)) := ⟨rfl, rfl, rfl, by decide +kernel, rfl, by decide +kernel, by decide +kernel⟩
theorem ok__law_sign_by {f : Addr} {fd : FuncData} (F : Fun K "_law_sign_by" "_law_sign_by" (top 25) f fd) : FnOk P w K mg base CX0 1 f fd ["cell"] spSg := by
  have nd := sc__law_sign_by.nd
  refine F.ok sc__law_sign_by (fun vs H Q E h => ?_) (fun cdv A outer s H vs Q E hr h => ?_)
  · obtain ⟨c, rfl, _⟩ := h
    rfl
  · obtain ⟨c, rfl, k⟩ := h
    refine ⟨_, (pss_cons (ps_set (i := 1) nd rfl (Or.inl rfl) pe_str)
        (pss_cons (ps_set (i := 1) nd rfl (Or.inl rfl) (pe_op op_add_str (pv 1) pe_str))
        (pss_one (ps_ret (pe_ix ix_str (pv 1) (pe_op op_mod (pv 0) pe_int) (fun _ _ => rfl)))))), ?_⟩
    refine ⟨_, rfl, _, _, rfl, rfl, (by rw [sizeLine_eq]; decide +kernel), ?_⟩
    refine ⟨_, rfl, _, rfl, _, _, rfl, rfl, (by show (0 : Int) < 94; decide), ?_⟩
    exact sign_ok (m := 94) (by decide +kernel) (by decide) (by decide) k
theorem sc__law_spoiled : FnScope ["text", "cell", "place", "rest", "ahead", "way", "words", "some"] ["text", "cell"] (defScope (top 26)) := ⟨rfl, rfl, rfl, by decide +kernel, rfl, by decide +kernel, by decide +kernel⟩
set_option maxHeartbeats 8000000 in
theorem ok__law_spoiled {f : Addr} {fd : FuncData} (F : Fun K "_law_spoiled" "_law_spoiled" (top 26) f fd) (B : Bt mg) (c__law_sets : Cal P w K mg base "_law_sets" 4 spSets) (c__law_text : Cal P w K mg base "_law_text" 2 spTx) (c__law_sign_by : Cal P w K mg base "_law_sign_by" 1 spSg) :
    FnOk P w K mg base CX0 6 f fd ["text", "cell"] spSp := by
  have nd := sc__law_spoiled.nd
  refine F.ok sc__law_spoiled (fun vs H Q E h => ?_) (fun cdv A outer s H vs Q E hr h => ?_)
  · obtain ⟨t, c, rfl, _⟩ := h
    rfl
  · obtain ⟨tx, c, rfl, htl, htb, k⟩ := h
    have hz : tx.length ≤ sizeLine := by rw [sizeLine_eq]; (clear htb; omega)
    have hz2 : ∀ {n : Nat}, n ≤ 10000 → n ≤ sizeLine := fun {n} h => by rw [sizeLine_eq]; (clear hz htb htl; omega)
    refine ⟨_, (pss_cons (ps_set (i := 2) nd rfl (Or.inl rfl) (pe_op op_mod (pe_op op_fdiv (pv 1) pe_int) (pe_op op_add (pe_callB call_len_str rfl B.len PySem.boot_len (pa_cons (pv 0) pa_nil)) pe_int)))
        (pss_cons (ps_set (i := 3) nd rfl (Or.inl rfl) (pe_op op_fdiv (pe_op op_fdiv (pv 1) pe_int) (pe_op op_add (pe_callB call_len_str rfl B.len PySem.boot_len (pa_cons (pv 0) pa_nil)) pe_int)))
        (pss_cons (ps_set (i := 4) nd rfl (Or.inl rfl) (pe_slice sl_str (pv 0) po_none (po_some (pv 2))))
        (pss_cons (ps_set (i := 5) nd rfl (Or.inl rfl) (pe_op op_mod (pv 1) pe_int))
        (pss_cons (ps_set (i := 6) nd rfl (Or.inl rfl) (pe_bm PySem.F.plainAttrs_str PySem.F.slot_str_split PySem.F.type_str_split mt_split (pv 0) (pa_cons pe_str pa_nil)))
        (@pss_cons _ _ _ _ _ (@ps_set _ _ 7 _ _ _ _ nd rfl (Or.inl rfl) (@pe_lst _ _ _ _ (@pa_cons _ _ _ _ _ pe_str (@pa_cons _ _ _ _ _ pe_str (@pa_cons _ _ _ _ _ pe_str (@pa_cons _ _ _ _ _ pe_str (@pa_cons _ _ _ _ _ pe_str (@pa_cons _ _ _ _ _ pe_str (@pa_cons _ _ _ _ _ pe_str (@pa_cons _ _ _ _ _ pe_str (@pa_cons _ _ _ _ _ pe_str (@pa_cons _ _ _ _ _ pe_str (@pa_cons _ _ _ _ _ pe_str (@pa_cons _ _ _ _ _ pe_str (@pa_cons _ _ _ _ _ pe_str (@pa_cons _ _ _ _ _ pe_str pa_nil (by rfl)) (by rfl)) (by rfl)) (by rfl)) (by rfl)) (by rfl)) (by rfl)) (by rfl)) (by rfl)) (by rfl)) (by rfl)) (by rfl)) (by rfl)) (by rfl))) (by rfl) (by first | exact .inl rfl | exact .inr rfl))
        (pss_cons (ps_if (pt_cmpR op_eq (pv 5) pe_int (nomark _)) (pss_one (ps_ret (pe_op op_add_str (pe_op op_add_str (pv 4) (pe_cal c__law_sign_by (hr.mono (by decide)) rfl (pa_cons (pv 3) pa_nil))) (pe_slice sl_str (pv 0) (po_some (pv 2)) po_none)))) pss_nil)
        (pss_cons (ps_if (pt_cmpR op_eq (pv 5) pe_int (nomark _)) (pss_one (ps_ret (pe_op op_add_str (pe_op op_add_str (pv 4) (pe_cal c__law_sign_by (hr.mono (by decide)) rfl (pa_cons (pv 3) pa_nil))) (pe_slice sl_str (pv 0) (po_some (pe_op op_add (pv 2) pe_int)) po_none)))) pss_nil)
        (pss_cons (ps_if (pt_cmpR op_eq (pv 5) pe_int (nomark _)) (pss_one (ps_ret (pe_op op_add_str (pe_op op_add_str (pv 4) pe_str) (pe_slice sl_str (pv 0) (po_some (pe_op op_add (pv 2) (pe_op op_mod (pv 3) pe_int))) po_none)))) pss_nil)
        (pss_cons (ps_if (pt_cmpR op_eq (pv 5) pe_int (nomark _)) (pss_one (ps_ret (pe_op op_add_str (pv 4) (pe_slice sl_str (pv 0) (po_some (pe_op op_add (pv 2) pe_int)) po_none)))) pss_nil)
        (pss_cons (ps_if (pt_cmpR op_eq (pv 5) pe_int (nomark _)) (pss_cons (ps_expr (pe_bm PySem.F.plainAttrs_list PySem.F.slot_list_insert PySem.F.type_list_insert mt_insert (pv 6) (pa_cons (pe_op op_mod (pv 2) (pe_op op_add (pe_callB call_len_seq rfl B.len PySem.boot_len (pa_cons (pv 6) pa_nil)) pe_int)) (pa_cons (pe_ix (r := rIxL K) ix_list (pv 7) (pe_op op_mod (pv 3) pe_int) (fun _ _ => rfl)) pa_nil))))
        (pss_one (ps_ret (pe_bm PySem.F.plainAttrs_str PySem.F.slot_str_join PySem.F.type_str_join (mt_joinK (K := K)) pe_str (pa_cons (pv 6) pa_nil))))) pss_nil)
        (pss_cons (ps_if (pt_cmpR op_eq (pv 5) pe_int (nomark _)) (pss_cons (ps_expr (pe_bm PySem.F.plainAttrs_list PySem.F.slot_list_insert PySem.F.type_list_insert mt_insert (pv 6) (pa_cons (pe_op op_mod (pv 2) (pe_op op_add (pe_callB call_len_seq rfl B.len PySem.boot_len (pa_cons (pv 6) pa_nil)) pe_int)) (pa_cons (pe_ix (r := rIxL K) ix_list (pv 6) (pe_op op_mod (pv 3) (pe_callB call_len_seq rfl B.len PySem.boot_len (pa_cons (pv 6) pa_nil))) (fun _ _ => rfl)) pa_nil))))
        (pss_one (ps_ret (pe_bm PySem.F.plainAttrs_str PySem.F.slot_str_join PySem.F.type_str_join (mt_joinK (K := K)) pe_str (pa_cons (pv 6) pa_nil))))) pss_nil)
        (pss_cons (ps_if (pt_cmpR op_eq (pv 5) pe_int (nomark _)) (pss_one (ps_ret (pe_op op_add_str (pe_op op_add_str (pv 4) (pe_ix ix_str pe_str (pe_op op_mod (pv 3) pe_int) (fun _ _ => rfl))) (pe_slice sl_str (pv 0) (po_some (pv 2)) po_none)))) pss_nil)
        (pss_cons (ps_if (pt_cmpR op_eq (pe_op op_mod (pv 3) pe_int) pe_int (nomark _)) (pss_one (ps_ret (pe_cal c__law_text (hr.mono (by decide)) rfl (pa_cons (pe_slice (r := rSlL K) sl_list (pe_cal c__law_sets (hr.mono (by decide)) rfl (pa_cons pe_int (pa_cons pe_int pa_nil))) po_none (po_some (pe_op op_add pe_int (pe_op op_mod (pe_op op_fdiv (pv 3) pe_int) pe_int)))) pa_nil)))) pss_nil)
        (@pss_one _ _ _ (@ps_ret _ _ _ _ (@pe_ix _ _ _ _ _ _ (rIxL K) ix_list (@pe_lst _ _ _ _ (@pa_cons _ _ _ _ _ pe_str (@pa_cons _ _ _ _ _ pe_str (@pa_cons _ _ _ _ _ pe_str (@pa_cons _ _ _ _ _ pe_str (@pa_cons _ _ _ _ _ pe_str (@pa_cons _ _ _ _ _ pe_str (@pa_cons _ _ _ _ _ pe_str pa_nil (by rfl)) (by rfl)) (by rfl)) (by rfl)) (by rfl)) (by rfl)) (by rfl))) (pe_op op_mod (pv 3) pe_int) (fun _ _ => rfl)))))))))))))))))), ?_⟩
    refine ⟨_, rfl, _, _, rfl, rfl, ⟨by (clear hz htb htl; omega), by (clear hz htb htl; omega)⟩, _, rfl, tx, rfl, hz, _, _, rfl, rfl, _, _, rfl, rfl, (by show (0 : Int) < (tx.length : Nat) + 1; (clear hz htb htl; omega)), ?_⟩
    obtain ⟨pl, hpl, hpll⟩ : ∃ pl : Nat, c / 8 % (((tx.length : Nat) : Int) + 1) = (pl : Int) ∧ pl ≤ tx.length := by
      obtain ⟨q, h1, h2⟩ := mod_nat (c / 8) (tx.length + 1) (by (clear hz htb htl; omega))
      exact ⟨q, h1, by (clear h1 hz htb htl; omega)⟩
    show gName 2 (V.int (c / 8 % (((tx.length : Nat) : Int) + 1))) _ _ _
    rw [hpl]
    refine ⟨_, rfl, _, _, rfl, rfl, ⟨by (clear hpll hpl hz htb htl; omega), by (clear hpll hpl hz htb htl; omega)⟩, _, rfl, tx, rfl, hz, _, _, rfl, rfl, _, _, rfl, rfl, ⟨by show (0 : Int) < (tx.length : Nat) + 1; (clear hpll hpl hz htb htl; omega), by show ((tx.length : Nat) : Int) + 1 < 1073741824; (clear hpll hpl hz htb; omega)⟩, ?_⟩
    show gName 3 (V.int (c / 8 / (((tx.length : Nat) : Int) + 1))) _ _ _
    generalize c / 8 / (((tx.length : Nat) : Int) + 1) = rst
    refine ⟨_, rfl, _, rfl, _, rfl, tx, rfl, by (clear hpll hpl hz htb; omega), ?_⟩
    obtain ⟨a1, a2⟩ := sl_to tx hpll
    generalize Txt.slice tx none (some (pl : Int)) = ahead at a1 a2
    refine ⟨_, rfl, _, _, rfl, rfl, (by show (0 : Int) < 8; decide), ?_⟩
    refine ⟨_, rfl, rfl, _, _, rfl, rfl, by decide +kernel, by (clear a2 a1 hpll hpl hz htb; omega), fun lw hlw => ?_⟩
    refine ⟨(by show 14 ≤ sizeLine; decide), fun ls hls => ?_⟩
    have hwl := words_len tx
    have hwf : ∀ y ∈ Txt.split tx (Str.ofString " "), y.length ≤ 1000 ∧ 32 ∉ y.cps.toList := fun y hy => by
      rw [blank_eq] at hy
      have := split_part hy
      exact ⟨by (clear hwl a2 a1 hpll hpl hz htb; omega), StrLaws.split_free tx 32 y hy⟩
    revert hwl hwf hlw hls
    generalize Txt.split tx (Str.ofString " ") = ws
    intro hlw hls hwl hwf
    have nw : lw ≠ ls := fun z => by rw [← z, upd_same] at hls; cases hls
    have s1 : Same H (upd (upd H lw (.lst (ws.map V.str))) ls (.lst (some14.map V.str))) := (upd_fresh hlw).trans (upd_fresh hls)
    have gw : (upd (upd H lw (.lst (ws.map V.str))) ls (.lst (some14.map V.str))) lw = some (.lst (ws.map V.str)) := by rw [upd_ne nw, upd_same]
    have gs : (upd (upd H lw (.lst (ws.map V.str))) ls (.lst (some14.map V.str))) ls = some (.lst (some14.map V.str)) := upd_same
    have hHs : (upd (upd H lw (.lst (ws.map V.str))) ls (.lst (some14.map V.str))) = (upd (upd H lw (.lst (ws.map V.str))) ls (.lst [.str (Str.ofString "0"), .str (Str.ofString "11"), .str (Str.ofString "12"), .str (Str.ofString "00"), .str (Str.ofString "0.1"), .str (Str.ofString "1.0"), .str (Str.ofString "0.1.2"), .str (Str.ofString "0.0"), .str (Str.ofString "0.11"), .str (Str.ofString "0.12"), .str (Str.ofString "1_0"), .str (Str.ofString "-1"), .str (Str.ofString "0..1"), .str (Str.ofString "0.1.")])) := rfl
    rw [hHs] at s1 gw gs
    revert s1 gw gs
    generalize upd (upd H lw (.lst (ws.map V.str))) ls (.lst [.str (Str.ofString "0"), .str (Str.ofString "11"), .str (Str.ofString "12"), .str (Str.ofString "00"), .str (Str.ofString "0.1"), .str (Str.ofString "1.0"), .str (Str.ofString "0.1.2"), .str (Str.ofString "0.0"), .str (Str.ofString "0.11"), .str (Str.ofString "0.12"), .str (Str.ofString "1_0"), .str (Str.ofString "-1"), .str (Str.ofString "0..1"), .str (Str.ofString "0.1.")]) = H1
    intro s1 gw gs
    have put : ∀ (y r : Str), y.length = 1 → (bl r ≤ bl tx ∧ r.length ≤ tx.length) → Q (.str ((ahead ++ y) ++ r)) H1 := fun y r hy hr => by
      obtain ⟨b1, b2⟩ := bl_app ahead y
      obtain ⟨b3, b4⟩ := bl_app (ahead ++ y) r
      have := bl_le y
      exact k _ H1 s1 (BT_mk (by (clear this b3 b1 nw hwl a1 hpll hpl hz htb; omega)) (by (clear b4 b2 nw hwl a2 hpll hpl hz htl; omega)))
    have lens : ∀ (y : Str), y.length = 1 → ahead.length + y.length ≤ sizeLine ∧ ∀ r : Str, r.length ≤ tx.length → (ahead ++ y).length + r.length ≤ sizeLine := fun y hy => by
      obtain ⟨_, b2⟩ := bl_app ahead y
      exact ⟨hz2 (by (clear b2 nw hwl a1 hpll hpl hz htb; omega)), fun r hr => hz2 (by (clear nw hwl a1 hpll hpl hz htb; omega))⟩
    have join1 : ∀ (ts : List Str), ts ≠ [] → ts.length ≤ 42 → (∀ y ∈ ts, y.length ≤ 1000 ∧ 32 ∉ y.cps.toList) → JoinOk (Str.ofString " ") ts = true ∧ BT (Txt.join (Str.ofString " ") ts) := fun ts hne hl hy => by
      refine ⟨join_ok (b := 1000) (fun t ht => (hy t ht).1) (by rw [blank_eq]; decide) (by (clear nw hwl a2 a1 hpll hpl hz htb htl; omega)), BT_mk ?_ ?_⟩
      · have := join_len2 (ts := ts) (b := 1000) fun t ht => (hy t ht).1
        (clear nw hwl a2 a1 hpll hpl hz htb htl; omega)
      · have := bl_join hne fun t ht => (hy t ht).2
        (clear nw hwl a2 a1 hpll hpl hz htb htl; omega)
    have ins : ∀ (i : Nat) (y : Str), y.length ≤ 1000 ∧ 32 ∉ y.cps.toList → JoinOk (Str.ofString " ") (ws.take i ++ y :: ws.drop i) = true ∧ BT (Txt.join (Str.ofString " ") (ws.take i ++ y :: ws.drop i)) := fun i y hy =>
      join1 _ (by simp) (by rw [List.length_append, List.length_cons, List.length_take, List.length_drop]; (clear hy nw a2 a1 hpll hpl hz htl; omega)) fun z hz => by
        rcases List.mem_append.mp hz with hz | hz
        · exact hwf z (List.mem_of_mem_take hz)
        · rcases List.mem_cons.mp hz with rfl | hz
          · exact hy
          · exact hwf z (List.mem_of_mem_drop hz)
    refine ⟨_, rfl, rfl, _, rfl, ite2 (fun _ => ?_) (fun _ => ?_)⟩
    · refine ⟨_, rfl, _, rfl, _, rfl, fun y hy => ?_⟩
      refine ⟨_, _, rfl, rfl, (lens y hy).1, ?_⟩
      exact ⟨_, rfl, _, rfl, _, rfl, tx, rfl, by (clear hy nw hwl a2 a1 hpll hpl hz htb; omega), _, _, rfl, rfl, (lens y hy).2 _ (sl_from tx pl).2, put y _ hy (sl_from tx pl)⟩
    have ep1 : ((pl : Int) + 1) = ((pl + 1 : Nat) : Int) := by (clear nw hwl a2 a1 hpll hpl hz htb htl; omega)
    refine ⟨_, rfl, rfl, _, rfl, ite2 (fun _ => ?_) (fun _ => ?_)⟩
    · refine ⟨_, rfl, _, rfl, _, rfl, fun y hy => ?_⟩
      refine ⟨_, _, rfl, rfl, (lens y hy).1, ?_⟩
      refine ⟨_, rfl, _, rfl, _, _, rfl, rfl, ((pl + 1 : Nat) : Int), (by rw [← ep1]), tx, rfl, by (clear hy ep1 nw hwl a2 a1 hpll hpl hz htb; omega), _, _, rfl, rfl, (lens y hy).2 _ (sl_from tx (pl + 1)).2, put y _ hy (sl_from tx (pl + 1))⟩
    refine ⟨_, rfl, rfl, _, rfl, ite2 (fun _ => ?_) (fun _ => ?_)⟩
    · obtain ⟨q, hq, hq2⟩ := mod_nat rst 2 (by decide)
      have ep2 : ((pl : Int) + rst % 2) = ((pl + q : Nat) : Int) := by have : rst % 2 = (q : Int) := hq; (clear this hq2 ep1 nw hwl a2 a1 hpll hpl hz htb htl; omega)
      have h1 : (Str.ofString "\n").length = 1 := by decide +kernel
      refine ⟨_, rfl, _, _, rfl, rfl, (lens _ h1).1, ?_⟩
      exact ⟨_, rfl, _, rfl, _, rfl, _, _, rfl, rfl, (by show (0 : Int) < 2; decide), _, _, rfl, rfl, ((pl + q : Nat) : Int), (by rw [← ep2]), tx, rfl, by (clear h1 ep2 hq2 hq ep1 nw hwl a2 a1 hpll hpl hz htb; omega), _, _, rfl, rfl, (lens _ h1).2 _ (sl_from tx (pl + q)).2, put _ _ h1 (sl_from tx (pl + q))⟩
    refine ⟨_, rfl, rfl, _, rfl, ite2 (fun _ => ?_) (fun _ => ?_)⟩
    · obtain ⟨c1, c2⟩ := sl_from tx (pl + 1)
      obtain ⟨b1, b2⟩ := bl_app ahead (Txt.slice tx (some ((pl + 1 : Nat) : Int)) none)
      exact ⟨_, rfl, _, rfl, _, rfl, _, _, rfl, rfl, ((pl + 1 : Nat) : Int), (by rw [← ep1]), tx, rfl, by (clear b2 b1 c2 c1 ep1 nw hwl a2 a1 hpll hpl hz htb; omega), _, _, rfl, rfl, hz2 (by (clear b2 b1 c1 ep1 nw hwl a1 hpll hpl hz htb; omega)), k _ H1 s1 (BT_mk (by (clear b1 c1 ep1 nw hwl a1 hpll hpl hz htb; omega)) (by (clear b2 c2 ep1 nw hwl a2 hpll hpl hz htl; omega)))⟩
    obtain ⟨iw, hiw, hiwl⟩ : ∃ iw : Nat, (pl : Int) % ((((ws.map V.str).length : Nat) : Int) + 1) = (iw : Int) ∧ iw ≤ ws.length := by
      obtain ⟨q, h1, h2⟩ := mod_nat (pl : Int) (ws.length + 1) (by (clear ep1 nw hwl a2 a1 hpll hpl hz htb htl; omega))
      exact ⟨q, by rw [List.length_map]; exact h1, by (clear h1 ep1 nw hwl a2 a1 hpll hpl hz htb htl; omega)⟩
    refine ⟨_, rfl, rfl, _, rfl, ite2 (fun _ => ?_) (fun _ => ?_)⟩
    · obtain ⟨q, hq, hq14⟩ := mod_nat rst 14 (by decide)
      obtain ⟨y, hy1, hy2⟩ := at_mem (xs := some14) (q := q) hq14
      have hy := some14_ok y hy1
      have hy3 : y.length ≤ 1000 ∧ 32 ∉ y.cps.toList := ⟨by (clear hq14 hq hiwl hiw ep1 nw hwl a2 a1 hpll hpl hz htb htl; omega), hy.2⟩
      refine ⟨_, rfl, .inl ⟨rfl, _, .inl (.inl gw)⟩, _, rfl, _, rfl, lw, _, rfl, .inl (.inl (.inl gw)), _, _, rfl, rfl, _, _, rfl, rfl, (by show (0 : Int) < ((ws.map V.str).length : Nat) + 1; (clear hy3 hy hq14 hq hiwl hiw ep1 nw hwl a2 a1 hpll hpl hz htb htl; omega)), _, rfl, _, rfl, _, _, rfl, rfl, (by show (0 : Int) < 14; decide), ls, _, _, .str y, rfl, rfl, .inl (.inl gs), (by rw [show rst % 14 = (q : Int) from hq]; exact hy2), ?_⟩
      refine ⟨lw, ws.map V.str, iw, .str y, rfl, (by rw [← hiw]), gw, by rw [List.length_map]; exact hiwl, by rw [List.length_map, sizeLine_eq]; (clear hy3 hy hq14 hq hiwl hiw ep1 nw a2 a1 hpll hpl hz htl; omega), by rw [List.length_map]; (clear hy3 hy hq14 hq hiwl hiw ep1 nw a2 a1 hpll hpl hz htl; omega), ?_⟩
      have e9 : (ws.map V.str).take iw ++ V.str y :: (ws.map V.str).drop iw = (ws.take iw ++ y :: ws.drop iw).map V.str := by rw [List.map_append, List.map_cons, List.map_take, List.map_drop]
      rw [e9]
      exact ⟨rfl, _, rfl, _, lw, _, rfl, rfl, .inl (.inl upd_same), (ins iw y hy3).1, k _ _ (same_put s1 hlw) (ins iw y hy3).2⟩
    refine ⟨_, rfl, rfl, _, rfl, ite2 (fun _ => ?_) (fun _ => ?_)⟩
    · obtain ⟨q, hq, hqw⟩ := mod_nat rst ws.length (by (clear hiwl hiw ep1 nw a2 a1 hpll hpl hz htb htl; omega))
      obtain ⟨y, hy1, hy2⟩ := at_mem (xs := ws) (q := q) hqw
      have hy3 := hwf y hy1
      refine ⟨_, rfl, .inl ⟨rfl, _, .inl (.inl gw)⟩, _, rfl, _, rfl, lw, _, rfl, .inl (.inl (.inl gw)), _, _, rfl, rfl, _, _, rfl, rfl, (by show (0 : Int) < ((ws.map V.str).length : Nat) + 1; (clear hy3 hqw hq hiwl hiw ep1 nw hwl a2 a1 hpll hpl hz htb htl; omega)), _, rfl, _, rfl, _, rfl, lw, _, rfl, .inl (.inl (.inl gw)), _, _, rfl, rfl, (by rw [List.length_map]; show (0 : Int) < (ws.length : Nat); (clear hy3 hqw hq hiwl hiw ep1 nw a2 a1 hpll hpl hz htb htl; omega)), lw, _, _, .str y, rfl, rfl, .inl (.inl gw), (by rw [List.length_map, hq]; exact hy2), ?_⟩
      refine ⟨lw, ws.map V.str, iw, .str y, rfl, (by rw [← hiw]), gw, by rw [List.length_map]; exact hiwl, by rw [List.length_map, sizeLine_eq]; (clear hy3 hqw hq hiwl hiw ep1 nw a2 a1 hpll hpl hz htl; omega), by rw [List.length_map]; (clear hy3 hqw hq hiwl hiw ep1 nw a2 a1 hpll hpl hz htl; omega), ?_⟩
      have e9 : (ws.map V.str).take iw ++ V.str y :: (ws.map V.str).drop iw = (ws.take iw ++ y :: ws.drop iw).map V.str := by rw [List.map_append, List.map_cons, List.map_take, List.map_drop]
      rw [e9]
      exact ⟨rfl, _, rfl, _, lw, _, rfl, rfl, .inl (.inl upd_same), (ins iw y hy3).1, k _ _ (same_put s1 hlw) (ins iw y hy3).2⟩
    refine ⟨_, rfl, rfl, _, rfl, ite2 (fun _ => ?_) (fun _ => ?_)⟩
    · refine ⟨_, rfl, _, rfl, _, _, rfl, rfl, (by show (0 : Int) < 4; decide), ?_⟩
      refine sign_ok (m := 4) (by decide +kernel) (by decide) (by decide) fun y hy => ?_
      refine ⟨_, _, rfl, rfl, (lens y hy).1, ?_⟩
      exact ⟨_, rfl, _, rfl, _, rfl, tx, rfl, by (clear hy hiwl hiw ep1 nw hwl a2 a1 hpll hpl hz htb; omega), _, _, rfl, rfl, (lens y hy).2 _ (sl_from tx pl).2, put y _ hy (sl_from tx pl)⟩
    obtain ⟨q8, hq8, hq8l⟩ := mod_nat rst 8 (by decide)
    have hq8 : rst % 8 = (q8 : Int) := hq8
    refine ⟨_, rfl, _, _, rfl, rfl, (by show (0 : Int) < 8; decide), rfl, _, rfl, ite2 (fun _ => ?_) (fun h7 => ?_)⟩
    · refine ⟨12, 4, rfl, by decide, by decide, by decide, by decide, fun S2 H6 as2 G2 s6 hS20 hS2l hT2 hp2 hs2 => ?_⟩
      rw [sets_eq hp2 hs2, inOrder_st (by decide)] at hT2
      have h495 : SH.C 12 4 = 495 := by decide +kernel
      have has2 : as2.length = 495 := by rw [hT2.len, List.length_map, List.length_range, h495]
      obtain ⟨q, hq, hq11⟩ := mod_nat (rst / 8) 11 (by decide)
      have e198 : (198 : Int) + rst / 8 % 11 = ((198 + q : Nat) : Int) := by have : rst / 8 % 11 = (q : Int) := hq; (clear this hq11 has2 h495 hq8 hq8l hiwl hiw ep1 nw hwl a2 a1 hpll hpl hz htb htl; omega)
      refine ⟨_, rfl, _, _, rfl, rfl, ⟨by (clear e198 hq11 hq has2 h495 hq8 hq8l hiwl hiw ep1 nw hwl a2 a1 hpll hpl hz htb htl; omega), by (clear e198 hq11 hq has2 h495 hq8 hq8l hiwl hiw ep1 nw hwl a2 a1 hpll hpl hz htb htl; omega)⟩, _, _, rfl, rfl, (by show (0 : Int) < 11; decide), _, _, rfl, rfl, ((198 + q : Nat) : Int), (by rw [← e198]), S2, _, rfl, .inl (.inl hS2l), fun l7 hl7 => ?_⟩
      rw [cut_to]
      have g4 : Gd 12 4 ((List.range (SH.C 12 4)).map (stI 4)) := gd_st (by decide) List.nodup_range fun i hi => List.mem_range.mp hi
      have hsm : SmF (((List.range (SH.C 12 4)).map (stI 4)).take (198 + q)) := fun x hx => by
        have hx := List.mem_of_mem_take hx
        have hl4 := g4.len x hx
        exact ⟨fun a ha => by have := g4.lt x hx a ha; exact ⟨this.1, by (clear hl4 e198 hq11 hq has2 h495 hq8 hq8l hiwl hiw ep1 nw hwl a2 a1 hpll hpl hz htb htl; omega)⟩, by (clear e198 hq11 hq has2 h495 hq8 hq8l hiwl hiw ep1 nw hwl a2 a1 hpll hpl hz htb htl; omega), by (clear e198 hq11 hq has2 h495 hq8 hq8l hiwl hiw ep1 nw hwl a2 a1 hpll hpl hz htb htl; omega)⟩
      have hl9 : (((List.range (SH.C 12 4)).map (stI 4)).take (198 + q)).length ≤ 208 := by rw [List.length_take]; (clear e198 hq11 has2 h495 hq8 hq8l hiwl hiw ep1 nw hwl a2 a1 hpll hpl hz htb htl; omega)
      refine ⟨l7, as2.take (198 + q), _, rfl, upd_same, ((hT2.same (upd_fresh hl7)).take_ (198 + q)).1, hsm, by (clear e198 hq11 hq has2 h495 hq8 hq8l hiwl hiw ep1 nw hwl a2 a1 hpll hpl hz htb htl; omega), fun H8 s8 => ?_⟩
      obtain ⟨b1, b2⟩ := tF_bl hsm (by (clear e198 hq11 hq has2 h495 hq8 hq8l hiwl hiw ep1 nw hwl a2 a1 hpll hpl hz htb htl; omega))
      exact k _ H8 (((s1.trans s6).trans (upd_fresh hl7)).trans s8) (BT_mk (by (clear b1 e198 hq11 hq has2 h495 hq8 hq8l hiwl hiw ep1 nw hwl a2 a1 hpll hpl hz htb htl; omega)) b1)
    have h7 : q8 ≠ 7 := fun z => h7 (by
      show decide (V.int (rst % 8) = V.int 7) = true
      rw [hq8, z]; rfl)
    obtain ⟨y, hy1, hy2⟩ := at_mem (xs := some7) (q := q8) (by show q8 < 7; (clear hq8 hq8l hiwl hiw ep1 nw hwl a2 a1 hpll hpl hz htb htl; omega))
    refine ⟨(by show 7 ≤ sizeLine; decide), fun l8 hl8 => ?_⟩
    have hy3 := some7_ok y hy1
    have hb := bl_le y
    refine ⟨_, rfl, _, _, rfl, rfl, (by show (0 : Int) < 8; decide), l8, some7.map V.str, _, .str y, rfl, rfl, .inl (.inl upd_same), (by rw [hq8]; exact hy2), ?_⟩
    exact k _ _ (s1.trans (upd_fresh hl8)) (BT_mk (by (clear hb h7 hq8 hq8l hiwl hiw ep1 nw hwl a2 a1 hpll hpl hz htb htl; omega)) (by (clear h7 hq8 hq8l hiwl hiw ep1 nw hwl a2 a1 hpll hpl hz htb htl; omega)))
end
end K15

namespace L2
open PySem PySem.Spec PyProof.Rows
noncomputable def tVia (t u : TS) : TS := fun D σ H => ∃ Good : St → Hp → Prop, t { D with nx := Good } σ H ∧ ∀ σ H, Good σ H → u D σ H
theorem pss_via {X : Cx} {st : Stmt} {rest : List Stmt} {t u : TS} (h1 : PS X st t) (h2 : PSs X rest u) : PSs X (st :: rest) (tVia t u) := by
  intro pins s σ H D I h
  obtain ⟨Good, h, hg⟩ := h
  refine wpAny_execs_cons (thn (h1 pins s σ H { D with nx := Good } I h) fun f s1 q => ?_)
  cases f with
  | next =>
    obtain ⟨σ', H', I', q⟩ := q
    exact h2 pins s1 σ' H' D I' (hg σ' H' q)
  | ret v => exact q
  | brk => exact q
  | cont => exact q
end L2

namespace K15
open PySem L2 Exc
section
variable {P : Program} {w : World} {K : PySem.W.Frag} {mg : Str → Option Value} {base : Heap}
theorem sc_law : FnScope ["script", "things", "size", "family", "text", "due", "found", "marks", "e"] ["script"] (defScope (top 29)) := ⟨rfl, rfl, rfl, by decide +kernel, rfl, by decide +kernel, by decide +kernel⟩
set_option maxHeartbeats 8000000 in
theorem ok_law {f : Addr} {fd : FuncData} {aBadSet aNoSuch aBadFamily aNoText aHeapError : Addr} (F : Fun K "law" "law" (top 29) f fd) (B : Bt mg) (MHeapError : mg "HeapError" = some (.ref aHeapError)) (DHeapError : XD1 K aHeapError)
    (hmro : PySem.W.mroIn K aNoText (.ref aHeapError) = some true) (xk : XK1 K aNoText) (k1 : PySem.W.kitOne K (.ref aNoText) (.ref aBadSet) = some false) (k2 : PySem.W.kitOne K (.ref aNoText) (.ref aNoSuch) = some false) (k3 : PySem.W.kitOne K (.ref aNoText) (.ref aBadFamily) = some false)
    (k4 : PySem.W.kitOne K (.ref aNoText) (.ref aNoText) = some true) (k5 : PySem.W.kitOne K (.ref aNoText) (.type "ValueError") = some true) (c_read : CalX P w K mg base "read" 6 (spRd aNoText))
    (c__law_cell_at : Cal P w K mg base "_law_cell_at" 1 (spCell K)) (c__law_sets : Cal P w K mg base "_law_sets" 4 spSets) (c__law_family_by : Cal P w K mg base "_law_family_by" 4 (spFam K)) (c__law_size_of : Cal P w K mg base "_law_size_of" 4 (spSz K))
    (c__law_is_sets : Cal P w K mg base "_law_is_sets" 4 spIS) (c__law_marks_of : CalH P w K mg base "_law_marks_of" 1 (spMk K aBadSet aNoSuch aBadFamily aNoText)) (c__law_text : Cal P w K mg base "_law_text" 2 spTx) (c__law_spoiled : Cal P w K mg base "_law_spoiled" 6 spSp) (c__law_due : Cal P w K mg base "_law_due" 5 spDu) :
    FnOk P w K mg base CX0 9 f fd ["script"] (spLaw K) := by
  have nd := sc_law.nd
  refine F.ok sc_law (fun vs H Q E h => ?_) (fun cdv A outer s H vs Q E hr h => ?_)
  · obtain ⟨a, ns, rfl, _⟩ := h
    rfl
  · obtain ⟨p, ns, rfl, hS, hlen, k⟩ := h
    have hu := hr.units
    refine ⟨_, (pss_cons (ps_asg (pe_cal c__law_size_of (hr.mono (by decide)) rfl (pa_cons (pv 0) pa_nil)) (pg_tup rfl (pgs_cons (pg_name (i := 1) nd rfl (Or.inl rfl)) (pgs_cons (pg_name (i := 2) nd rfl (Or.inl rfl)) pgs_nil))))
        (pss_cons (ps_set (i := 3) nd rfl (Or.inl rfl) (pe_slice (r := rSlL K) sl_list (pe_cal c__law_family_by (hr.mono (by decide)) rfl (pa_cons (pv 0) (pa_cons pe_int (pa_cons (pe_cal c__law_sets (hr.mono (by decide)) rfl (pa_cons (pv 1) (pa_cons (pv 2) pa_nil))) (pa_cons (pe_cal c__law_cell_at (hr.mono (by decide)) rfl (pa_cons (pv 0) (pa_cons pe_int pa_nil))) pa_nil))))) po_none (po_some pe_int)))
        (pss_cons (ps_set (i := 4) nd rfl (Or.inl rfl) (pe_cal c__law_text (hr.mono (by decide)) rfl (pa_cons (pv 3) pa_nil)))
        (pss_via (ps_if (pt_cmpR op_gt (pe_op op_mod (pe_cal c__law_cell_at (hr.mono (by decide)) rfl (pa_cons (pv 0) (pa_cons pe_int pa_nil))) pe_int) pe_int (nomark _)) (pss_one (ps_set (i := 4) nd rfl (Or.inl rfl) (pe_cal c__law_spoiled (hr.mono (by decide)) rfl (pa_cons (pv 4) (pa_cons (pe_op op_mod (pe_op op_fdiv (pe_cal c__law_cell_at (hr.mono (by decide)) rfl (pa_cons (pv 0) (pa_cons pe_int pa_nil))) pe_int) (pe_op op_pow pe_int pe_int)) pa_nil))))) pss_nil)
        (pss_cons (ps_set (i := 5) nd rfl (Or.inl rfl) (pe_cal c__law_due (hr.mono (by decide)) rfl (pa_cons (pv 4) pa_nil)))
        (pss_cons (ps_set (i := 6) nd rfl (Or.inl rfl) pe_non)
        (pss_cons (ps_set (i := 7) nd rfl (Or.inl rfl) (pe_lst pa_nil))
        (pss_cons (ps_tryAsg (iy := 6) (i := 8) rfl rfl c_read (hr.mono (by decide)) rfl (fun _ => (pa_cons (pv 4) pa_nil)) rfl MHeapError DHeapError nd rfl rfl rfl rfl rfl (fun _ => (pss_one (ps_set (i := 7) nd rfl (Or.inl rfl) (pe_calH c__law_marks_of (hr.h.mark.mono (by decide)) rfl (pa_cons (pv 8) pa_nil))))))
        (pss_cons (ps_if (pt_cmpR op_isN (pv 5) pe_non (nomark _)) (pss_one (ps_ret (pe_cmpR (op_eqK (K := K) hu) (pv 7) (pe_lst (pa_cons pe_bl (pa_cons pe_bl (pa_cons pe_bl (pa_cons pe_bl (pa_cons pe_bl pa_nil)))))) (nomark _)))) pss_nil)
        (pss_one (ps_ret (pe_and (pe_cmpR (op_eqK (K := K) hu) (pv 7) (pe_lst pa_nil) (nomark _)) (pe_one (pe_cal c__law_is_sets (hr.mono (by decide)) rfl (pa_cons (pv 6) (pa_cons (pv 5) pa_nil)))))))))))))))), ?_⟩
    refine ⟨_, rfl, p, ns, rfl, hS, fun t H1 n z s1 ht0 ht hn1 hn12 hz1 hz6 hzn hpow hsm => ?_⟩
    refine ⟨t, _, rfl, .inl (.inl ht), rfl, _, _, rfl, _, _, rfl, rfl, ?_⟩
    refine ⟨_, rfl, _, rfl, _, rfl, n, z, rfl, by (clear hsm hpow hzn hz6 hz1 hn1 hu hlen; omega), hz1, by (clear hsm hpow hzn hz1 hn12 hn1 hu hlen; omega), hpow, fun S H2 as G s2 hS0 hSl hT hp hs => ?_⟩
    rw [sets_eq hp hs, inOrder_st hz1] at hT
    have hasl : as.length = SH.C n z := by rw [hT.len]; simp
    have hC := C_4096 (k := z) hn12
    have sS2 : SqL K H2 p (ns.map V.int) := (s1.trans s2).seq hS
    refine ⟨_, rfl, p, ns, 1, rfl, sS2, p, S, ns, 3, _, as, rfl, sS2, hSl, by (clear hsm hpow hzn hz6 hz1 hn12 hn1 hu hlen; omega), by (clear hC hasl hsm hpow hzn hz6 hz1 hn12 hn1 hu hlen; omega), fun l H3 fs gs s3 hl0 hl hfg hgs hf200 => ?_⟩
    obtain ⟨rest, hpr⟩ : ∃ rest, (fs ++ rest).Perm as := by
      obtain ⟨rest, hr⟩ := hgs.exists_perm_append
      exact ⟨rest, (hfg.append_right rest).trans hr.symm⟩
    obtain ⟨ms, hnd, hb, hml, hfN, hTf⟩ := sub_sets (hT.same s3) hpr
    have g0 : Gd n z (ms.map (stI z)) := gd_st hz1 hnd hb
    revert g0 hTf
    generalize ms.map (stI z) = F0
    intro hTf g0
    refine ⟨((20 : Nat) : Int), rfl, l, _, rfl, .inl (.inl hl), fun l1 hl1 => ?_⟩
    rw [cut_to]
    have sS4 : SqL K (upd H3 l1 (.lst ((fs.take 20).map V.ref))) p (ns.map V.int) := (s3.trans (upd_fresh hl1)).seq sS2
    have hsm2 : SmF (F0.take 20) := fun x hx => by
      have hx := List.mem_of_mem_take hx
      have hl4 := g0.len x hx
      exact ⟨fun a ha => by have := g0.lt x hx a ha; exact ⟨this.1, by (clear hl4 hfN hml hf200 hC hasl hsm hpow hzn hz6 hz1 hn1 hu hlen; omega)⟩, by (clear hfN hml hf200 hC hasl hsm hpow hzn hz6 hn12 hn1 hu hlen; omega), by (clear hfN hml hf200 hC hasl hsm hpow hzn hz1 hn12 hn1 hu hlen; omega)⟩
    have hl20 : (F0.take 20).length ≤ 20 := by rw [List.length_take]; (clear hfN hml hf200 hC hasl hsm hpow hzn hz6 hz1 hn12 hn1 hu hlen; omega)
    refine ⟨_, rfl, l1, fs.take 20, F0.take 20, rfl, upd_same, ((hTf.same (upd_fresh hl1)).take_ 20).1, hsm2, by (clear hfN hml hf200 hC hasl hsm hpow hzn hz6 hz1 hn12 hn1 hu hlen; omega), fun H5 s5 => ?_⟩
    obtain ⟨_, b2⟩ := tF_bl hsm2 (by (clear hfN hml hf200 hC hasl hsm hpow hzn hz6 hz1 hn12 hn1 hu hlen; omega))
    have b1 := tF_bl2 hsm2
    have sS5 := s5.seq sS4
    clear hsm2
    revert hl20 b1 b2
    generalize F0.take 20 = F1
    intro hl20 b1 b2
    have b3 : bl (tF F1) ≤ 40 ∧ (tF F1).length ≤ 1000 := ⟨by (clear b1 hfN hml hf200 hC hasl hsm hpow hzn hz6 hz1 hn12 hn1 hu hlen; omega), by (clear b2 hfN hml hf200 hC hasl hsm hpow hzn hz6 hz1 hn12 hn1 hu hlen; omega)⟩
    clear b1 b2 hl20
    revert b3
    generalize tF F1 = tx0
    rintro ⟨b1, b2⟩
    refine ⟨fun σ _ => ∃ tx : Str, σ = [some (.ref p), some (.int (n : Int)), some (.int (z : Int)), some (.ref l1), some (.str tx), none, none, none, none] ∧ BT tx, ?_, ?_⟩
    · refine ⟨_, rfl, p, ns, 2, rfl, sS5, _, _, rfl, rfl, (by show (0 : Int) < 4; decide), _, _, rfl, rfl, _, rfl, ite2 (fun h1 => ?_) (fun _ => ⟨tx0, rfl, BT_mk (by (clear b1 hfN hml hf200 hC hasl hsm hpow hzn hz6 hz1 hn12 hn1 hu hlen; omega)) (by (clear b2 hfN hml hf200 hC hasl hsm hpow hzn hz6 hz1 hn12 hn1 hu hlen; omega))⟩)⟩
      refine ⟨_, rfl, _, rfl, p, ns, 2, rfl, sS5, _, _, rfl, rfl, ⟨by (clear b2 b1 hfN hml hf200 hC hasl hsm hpow hzn hz6 hz1 hn12 hn1 hu hlen; omega), by (clear b2 b1 hfN hml hf200 hC hasl hsm hpow hzn hz6 hz1 hn12 hn1 hu hlen; omega)⟩, _, _, rfl, rfl, ⟨by decide, by decide, by decide⟩, _, _, rfl, rfl, (by show (0 : Int) < (10 : Int) ^ (Int.toNat 12); decide), ?_⟩
      exact ⟨tx0, _, rfl, b2, b1, fun t' H6 s6 hb => ⟨t', rfl, hb⟩⟩
    clear b1 b2 sS5 s5 hTf hl1 hl sS2 sS4
    rintro σ H9 ⟨tx, rfl, hbt⟩
    have htl : tx.length ≤ 90000 := by have := hbt.1; (clear hfN hml hf200 hC hasl hsm hpow hzn hz6 hz1 hn12 hn1 hu hlen; omega)
    refine ⟨_, rfl, tx, rfl, hbt, fun hn Ha sa => ?_, fun Fm hF ld ds Ha sa hld0 hld hTd => ?_⟩
    · -- refused
      refine ⟨Nat.zero_le _, fun lm hlm => ?_⟩
      refine ⟨_, rfl, tx, rfl, htl, fun _ Hb sb => ⟨aNoText, rfl, hmro, fun ea hea => ?_⟩, fun Fm hF => ?_⟩
      · refine ⟨_, rfl, ea, aNoText, false, false, false, true, true, rfl, upd_same, xk, k1, k2, k3, k4, k5, fun l2 Hc sc hl2 => ?_⟩
        refine ⟨_, rfl, rfl, _, rfl, iteT ?_⟩
        refine ⟨_, rfl, (by show 5 ≤ sizeLine; decide), fun l3 hl3 => ?_⟩
        refine ⟨.l [.b false, .b false, .b false, .b true, .b false], .l [.b false, .b false, .b false, .b true, .b false], ⟨l2, _, rfl, .inl (.inl (upd_fresh hl3 _ _ hl2)), ⟨rfl, rfl, rfl, rfl, rfl, trivial⟩⟩, ⟨l3, _, rfl, .inl (.inl upd_same), ⟨rfl, rfl, rfl, rfl, rfl, trivial⟩⟩, ⟨trivial, trivial, trivial, trivial, trivial, trivial⟩, by decide, by decide, ?_⟩
        exact k _
      · rw [hn] at hF; cases hF
    · -- read
      refine ⟨Nat.zero_le _, fun lm hlm => ?_⟩
      have sm := upd_fresh hlm (o := .lst [])
      refine ⟨_, rfl, tx, rfl, htl, fun hn => ?_, fun F2 hF2 lf gs2 Hb sb hlf0 hlf hTf2 => ?_⟩
      · rw [hF] at hn; cases hn
      · rw [hF] at hF2
        cases hF2
        refine ⟨_, rfl, rfl, _, rfl, iteF ?_⟩
        refine ⟨_, rfl, Nat.zero_le _, fun l4 hl4 => ?_⟩
        have s4 := upd_fresh hl4 (o := .lst [])
        refine ⟨.l [], .l [], ⟨lm, _, rfl, .inl (.inl (s4 _ _ (sb _ _ upd_same))), trivial⟩, ⟨l4, _, rfl, .inl (.inl upd_same), trivial⟩, trivial, by decide, by decide, _, rfl, ?_⟩
        refine (iteT ?_ : if true = true then _ else _)
        refine ⟨_, rfl, _, rfl, lf, ld, gs2, ds, Fm, Fm, rfl, s4 _ _ hlf, s4 _ _ (sb _ _ (sm _ _ hld)), hTf2.same s4, ((hTd.same sm).same sb).same s4, ?_⟩
        rw [decide_eq_true rfl]
        exact k _
end
end K15

namespace K15
open PySem L2 Exc
theorem all_mk {l : PySem.W.OpenLaw} {w : World} {K : PySem.W.Frag} {h : Heap} {mg : Str → Option Value} {fa f0 f1 f2 f3 f4 f5 f6 f7 f8 f9 f10 f11 f12 f13 f14 f15 f16 aHeapError aBadSet aNoSuch aBadFamily aNoText aN : Addr} (X : K.In h) (G : h.Ns mainGlobals mg) (hfa : mg "law" = some (.ref fa))
    {od0 an0 od1 an1 od2 an2 od3 an3 od4 an4 od5 an5 od6 an6 od7 an7 od8 an8 od9 an9 od10 an10 od11 an11 od12 an12 od13 an13 od14 an14 od15 an15 od16 an16 : Option Addr} {sl0 sl1 sl2 sl3 sl4 sl5 sl6 sl7 sl8 sl9 sl10 sl11 sl12 sl13 sl14 sl15 sl16 : Array (Option Value)} {oc0 kV0 dc0 pm0 cd0 ct0 oc1 kV1 dc1 pm1 cd1 ct1 oc2 kV2 dc2 pm2 cd2 ct2 oc3 kV3 dc3 pm3 cd3 ct3 oc4 kV4 dc4 pm4 cd4 ct4 oc5 kV5 dc5 pm5 cd5 ct5 oc6 kV6 dc6 pm6 cd6 ct6 oc7 kV7 dc7 pm7 cd7 ct7 oc8 kV8 dc8 pm8 cd8 ct8 oc9 kV9 dc9 pm9 cd9 ct9 oc10 kV10 dc10 pm10 cd10 ct10 oc11 kV11 dc11 pm11 cd11 ct11 oc12 kV12 dc12 pm12 cd12 ct12 oc13 kV13 dc13 pm13 cd13 ct13 oc14 kV14 dc14 pm14 cd14 ct14 oc15 kV15 dc15 pm15 cd15 ct15 oc16 kV16 dc16 pm16 cd16 ct16 : Value} {tk0 tk1 tk2 : Tok}
    {nm q : Str} {bs : List Value} {hdct : Bool} {sn : List Str} {sub : List Value} {ab : Bool} {col : Option Bool} {dd : Option Addr} {k0 k1 k2 k3 k5 : Option Value} {v2 v3 v4 : Value} {d2 d3 d4 : Option Addr} {es2 es4 : Array DictEntry} {ep2 ep4 : Nat} {x2 x3 x4 : Array (Option Value)} {KHeapError KBadSet KNoSuch KBadFamily KNoText : ClassData}
    (a0 : PySem.W.nsIn K mainGlobals "rises_below" = some (some (.ref f0))) (l0 : K.lookup f0 = some ⟨oc0, od0, .func (PySem.W.fnOf "rises_below" "rises_below" (defArgs (top 7)) (defBody (top 7)) (defScope (top 7)) .none kV0 dc0 pm0 an0 cd0 ct0), sl0⟩) (c0 : PySem.W.codeIn K cd0 "rises_below" = true) (k_0 : PySem.W.keepIn K (.ref f0) = true)
    (a1 : PySem.W.nsIn K mainGlobals "is_family" = some (some (.ref f1))) (l1 : K.lookup f1 = some ⟨oc1, od1, .func (PySem.W.fnOf "is_family" "is_family" (defArgs (top 12)) (defBody (top 12)) (defScope (top 12)) .none kV1 dc1 pm1 an1 cd1 ct1), sl1⟩) (c1 : PySem.W.codeIn K cd1 "is_family" = true) (k_1 : PySem.W.keepIn K (.ref f1) = true)
    (a2 : PySem.W.nsIn K mainGlobals "read_set" = some (some (.ref f2))) (l2 : K.lookup f2 = some ⟨oc2, od2, .func (PySem.W.fnOf "read_set" "read_set" (defArgs (top 14)) (defBody (top 14)) (defScope (top 14)) .none kV2 dc2 pm2 an2 cd2 ct2), sl2⟩) (c2 : PySem.W.codeIn K cd2 "read_set" = true) (k_2 : PySem.W.keepIn K (.ref f2) = true)
    (a3 : PySem.W.nsIn K mainGlobals "read" = some (some (.ref f3))) (l3 : K.lookup f3 = some ⟨oc3, od3, .func (PySem.W.fnOf "read" "read" (defArgs (top 15)) (defBody (top 15)) (defScope (top 15)) .none kV3 dc3 pm3 an3 cd3 ct3), sl3⟩) (c3 : PySem.W.codeIn K cd3 "read" = true) (k_3 : PySem.W.keepIn K (.ref f3) = true)
    (a4 : PySem.W.nsIn K mainGlobals "_law_cell_at" = some (some (.ref f4))) (l4 : K.lookup f4 = some ⟨oc4, od4, .func (PySem.W.fnOf "_law_cell_at" "_law_cell_at" (defArgs (top 17)) (defBody (top 17)) (defScope (top 17)) .none kV4 dc4 pm4 an4 cd4 ct4), sl4⟩) (c4 : PySem.W.codeIn K cd4 "_law_cell_at" = true) (k_4 : PySem.W.keepIn K (.ref f4) = true)
    (a5 : PySem.W.nsIn K mainGlobals "_law_whole" = some (some (.ref f5))) (l5 : K.lookup f5 = some ⟨oc5, od5, .func (PySem.W.fnOf "_law_whole" "_law_whole" (defArgs (top 18)) (defBody (top 18)) (defScope (top 18)) .none kV5 dc5 pm5 an5 cd5 ct5), sl5⟩) (c5 : PySem.W.codeIn K cd5 "_law_whole" = true) (k_5 : PySem.W.keepIn K (.ref f5) = true)
    (a6 : PySem.W.nsIn K mainGlobals "_law_sets" = some (some (.ref f6))) (l6 : K.lookup f6 = some ⟨oc6, od6, .func (PySem.W.fnOf "_law_sets" "_law_sets" (defArgs (top 19)) (defBody (top 19)) (defScope (top 19)) .none kV6 dc6 pm6 an6 cd6 ct6), sl6⟩) (c6 : PySem.W.codeIn K cd6 "_law_sets" = true) (k_6 : PySem.W.keepIn K (.ref f6) = true)
    (a7 : PySem.W.nsIn K mainGlobals "_law_family_by" = some (some (.ref f7))) (l7 : K.lookup f7 = some ⟨oc7, od7, .func (PySem.W.fnOf "_law_family_by" "_law_family_by" (defArgs (top 20)) (defBody (top 20)) (defScope (top 20)) .none kV7 dc7 pm7 an7 cd7 ct7), sl7⟩) (c7 : PySem.W.codeIn K cd7 "_law_family_by" = true) (k_7 : PySem.W.keepIn K (.ref f7) = true)
    (a8 : PySem.W.nsIn K mainGlobals "_law_size_of" = some (some (.ref f8))) (l8 : K.lookup f8 = some ⟨oc8, od8, .func (PySem.W.fnOf "_law_size_of" "_law_size_of" (defArgs (top 21)) (defBody (top 21)) (defScope (top 21)) .none kV8 dc8 pm8 an8 cd8 ct8), sl8⟩) (c8 : PySem.W.codeIn K cd8 "_law_size_of" = true) (k_8 : PySem.W.keepIn K (.ref f8) = true)
    (a9 : PySem.W.nsIn K mainGlobals "_law_is_sets" = some (some (.ref f9))) (l9 : K.lookup f9 = some ⟨oc9, od9, .func (PySem.W.fnOf "_law_is_sets" "_law_is_sets" (defArgs (top 22)) (defBody (top 22)) (defScope (top 22)) .none kV9 dc9 pm9 an9 cd9 ct9), sl9⟩) (c9 : PySem.W.codeIn K cd9 "_law_is_sets" = true) (k_9 : PySem.W.keepIn K (.ref f9) = true)
    (a10 : PySem.W.nsIn K mainGlobals "_law_marks_of" = some (some (.ref f10))) (l10 : K.lookup f10 = some ⟨oc10, od10, .func (PySem.W.fnOf "_law_marks_of" "_law_marks_of" (defArgs (top 23)) (defBody (top 23)) (defScope (top 23)) .none kV10 dc10 pm10 an10 cd10 ct10), sl10⟩) (c10 : PySem.W.codeIn K cd10 "_law_marks_of" = true) (k_10 : PySem.W.keepIn K (.ref f10) = true)
    (a11 : PySem.W.nsIn K mainGlobals "_law_text" = some (some (.ref f11))) (l11 : K.lookup f11 = some ⟨oc11, od11, .func (PySem.W.fnOf "_law_text" "_law_text" (defArgs (top 24)) (defBody (top 24)) (defScope (top 24)) .none kV11 dc11 pm11 an11 cd11 ct11), sl11⟩) (c11 : PySem.W.codeIn K cd11 "_law_text" = true) (k_11 : PySem.W.keepIn K (.ref f11) = true)
    (a12 : PySem.W.nsIn K mainGlobals "_law_sign_by" = some (some (.ref f12))) (l12 : K.lookup f12 = some ⟨oc12, od12, .func (PySem.W.fnOf "_law_sign_by" "_law_sign_by" (defArgs (top 25)) (defBody (top 25)) (defScope (top 25)) .none kV12 dc12 pm12 an12 cd12 ct12), sl12⟩) (c12 : PySem.W.codeIn K cd12 "_law_sign_by" = true) (k_12 : PySem.W.keepIn K (.ref f12) = true)
    (a13 : PySem.W.nsIn K mainGlobals "_law_spoiled" = some (some (.ref f13))) (l13 : K.lookup f13 = some ⟨oc13, od13, .func (PySem.W.fnOf "_law_spoiled" "_law_spoiled" (defArgs (top 26)) (defBody (top 26)) (defScope (top 26)) .none kV13 dc13 pm13 an13 cd13 ct13), sl13⟩) (c13 : PySem.W.codeIn K cd13 "_law_spoiled" = true) (k_13 : PySem.W.keepIn K (.ref f13) = true)
    (a14 : PySem.W.nsIn K mainGlobals "_law_number" = some (some (.ref f14))) (l14 : K.lookup f14 = some ⟨oc14, od14, .func (PySem.W.fnOf "_law_number" "_law_number" (defArgs (top 27)) (defBody (top 27)) (defScope (top 27)) .none kV14 dc14 pm14 an14 cd14 ct14), sl14⟩) (c14 : PySem.W.codeIn K cd14 "_law_number" = true) (k_14 : PySem.W.keepIn K (.ref f14) = true)
    (a15 : PySem.W.nsIn K mainGlobals "_law_due" = some (some (.ref f15))) (l15 : K.lookup f15 = some ⟨oc15, od15, .func (PySem.W.fnOf "_law_due" "_law_due" (defArgs (top 28)) (defBody (top 28)) (defScope (top 28)) .none kV15 dc15 pm15 an15 cd15 ct15), sl15⟩) (c15 : PySem.W.codeIn K cd15 "_law_due" = true) (k_15 : PySem.W.keepIn K (.ref f15) = true)
    (a16 : PySem.W.nsIn K mainGlobals "law" = some (some (.ref f16))) (l16 : K.lookup f16 = some ⟨oc16, od16, .func (PySem.W.fnOf "law" "law" (defArgs (top 29)) (defBody (top 29)) (defScope (top 29)) .none kV16 dc16 pm16 an16 cd16 ct16), sl16⟩) (c16 : PySem.W.codeIn K cd16 "law" = true) (k_16 : PySem.W.keepIn K (.ref f16) = true)
    (t0 : PySem.W.nsIn K mainGlobals "MOST_SETS" = some (some (.int 200 tk0)))
    (t1 : PySem.W.nsIn K mainGlobals "MOST_THINGS_IN_A_MEMBER" = some (some (.int 6 tk1)))
    (t2 : PySem.W.nsIn K mainGlobals "THINGS_OF_FAMILIES" = some (some (.int 12 tk2)))
    (z0 : PySem.W.nsIn K mainGlobals "len" = some none) (z1 : PySem.W.nsIn K mainGlobals "min" = some none) (z2 : PySem.W.nsIn K mainGlobals "max" = some none) (z3 : PySem.W.nsIn K mainGlobals "sum" = some none) (z4 : PySem.W.nsIn K mainGlobals "sorted" = some none) (z5 : PySem.W.nsIn K mainGlobals "list" = some none) (z6 : PySem.W.nsIn K mainGlobals "tuple" = some none) (z7 : PySem.W.nsIn K mainGlobals "set" = some none) (z8 : PySem.W.nsIn K mainGlobals "reversed" = some none) (z9 : PySem.W.nsIn K mainGlobals "isinstance" = some none) (z10 : PySem.W.nsIn K mainGlobals "int" = some none) (z11 : PySem.W.nsIn K mainGlobals "bool" = some none) (z12 : PySem.W.nsIn K mainGlobals "range" = some none) (z13 : PySem.W.nsIn K mainGlobals "enumerate" = some none) (z14 : PySem.W.nsIn K mainGlobals "ValueError" = some none) (z15 : PySem.W.nsIn K mainGlobals "any" = some none) (z16 : PySem.W.nsIn K mainGlobals "str" = some none) (z17 : PySem.W.nsIn K mainGlobals "dict" = some none)
    (nHeapError : PySem.W.nsIn K mainGlobals "HeapError" = some (some (.ref aHeapError))) (CHeapError : PySem.W.clsIn K aHeapError = some KHeapError) (YHeapError : PySem.W.typeIn K (.ref aHeapError) = some (.type "type"))
    (nBadSet : PySem.W.nsIn K mainGlobals "BadSet" = some (some (.ref aBadSet))) (CBadSet : PySem.W.clsIn K aBadSet = some KBadSet) (YBadSet : PySem.W.typeIn K (.ref aBadSet) = some (.type "type"))
    (nNoSuch : PySem.W.nsIn K mainGlobals "NoSuch" = some (some (.ref aNoSuch))) (CNoSuch : PySem.W.clsIn K aNoSuch = some KNoSuch) (YNoSuch : PySem.W.typeIn K (.ref aNoSuch) = some (.type "type"))
    (nBadFamily : PySem.W.nsIn K mainGlobals "BadFamily" = some (some (.ref aBadFamily))) (CBadFamily : PySem.W.clsIn K aBadFamily = some KBadFamily) (YBadFamily : PySem.W.typeIn K (.ref aBadFamily) = some (.type "type"))
    (nNoText : PySem.W.nsIn K mainGlobals "NoText" = some (some (.ref aNoText))) (CNoText : PySem.W.clsIn K aNoText = some KNoText) (YNoText : PySem.W.typeIn K (.ref aNoText) = some (.type "type"))
    (e1 : K.lookup aNoText = some (excClassObj nm q aNoText aN bs [.ref aHeapError, .type "ValueError", .type "Exception", .type "BaseException", .type "object"] hdct sn sub ab col dd k0 k1 k2 k3 k5 "ValueError.__new__")) (e2 : K.lookup aN = some ⟨v2, d2, .dict es2 ep2, x2⟩) (e3 : es2.toList.all isStrK = true) (e4 : PySem.W.nsIn K aN "__init__" = some none)
    (e5 : K.lookup aHeapError = some ⟨v3, d3, .cls KHeapError, x3⟩) (e6 : K.lookup KHeapError.ns = some ⟨v4, d4, .dict es4 ep4, x4⟩) (e7 : es4.toList.all isStrK = true) (e8 : PySem.W.nsIn K KHeapError.ns "__init__" = some none)
    (m1 : PySem.W.mroIn K aHeapError (.type "BaseException") = some true) (m2 : PySem.W.mroIn K aNoText (.ref aHeapError) = some true) (m3 : PySem.W.mroIn K aNoText (.type "object") = some true) (m4 : PySem.W.mroIn K aNoText (.type "BaseException") = some true)
    (g1 : PySem.W.findIn K (.ref aNoText) "__getattribute__" = some (some (.builtin "BaseException.__getattribute__"))) (g2 : PySem.W.findIn K (.ref aNoText) "__getattr__" = some none) (g3 : PySem.W.findIn K (.ref aNoText) "__class__" = some (some (.builtin "object.__class__")))
    (g4 : PySem.W.specialIn K (.builtin "object.__class__") "__get__" = some (some (.builtin "getset_descriptor.__get__"))) (g5 : PySem.W.takesIn K (.builtin "object.__class__") = some true)
    (qBadSet : (Value.ref aNoText == Value.ref aBadSet) = false) (sBadSet : PySem.W.subIn K (.ref aNoText) (.ref aBadSet) = some false)
    (qNoSuch : (Value.ref aNoText == Value.ref aNoSuch) = false) (sNoSuch : PySem.W.subIn K (.ref aNoText) (.ref aNoSuch) = some false)
    (qBadFamily : (Value.ref aNoText == Value.ref aBadFamily) = false) (sBadFamily : PySem.W.subIn K (.ref aNoText) (.ref aBadFamily) = some false)
    (sV : PySem.W.subIn K (.ref aNoText) (.type "ValueError") = some true) :
    ∃ fd : FuncData, (∀ (s : Shared) (v : Value), BindsTo s fd ⟨[v], []⟩ [("script", v)]) ∧ ∀ base : Heap, K.In base → base.Ns mainGlobals mg → FnOk l.prog w K mg base CX0 9 fa fd ["script"] (spLaw K) := by
  have e := hfa.symm.trans (PySem.W.mg_of X G a16)
  cases e
  have B : Bt mg := ⟨PySem.W.mg_none_of X G z0, PySem.W.mg_none_of X G z1, PySem.W.mg_none_of X G z2, PySem.W.mg_none_of X G z3, PySem.W.mg_none_of X G z4, PySem.W.mg_none_of X G z5, PySem.W.mg_none_of X G z6, PySem.W.mg_none_of X G z7, PySem.W.mg_none_of X G z8, PySem.W.mg_none_of X G z9, PySem.W.mg_none_of X G z10, PySem.W.mg_none_of X G z11, PySem.W.mg_none_of X G z12, PySem.W.mg_none_of X G z13, PySem.W.mg_none_of X G z14, PySem.W.mg_none_of X G z15, PySem.W.mg_none_of X G z16, PySem.W.mg_none_of X G z17⟩
  have T : Tx mg := ⟨⟨_, PySem.W.mg_of X G t0⟩, ⟨_, PySem.W.mg_of X G t1⟩, ⟨_, PySem.W.mg_of X G t2⟩⟩
  have MHeapError := PySem.W.mg_of X G nHeapError
  have MBadSet := PySem.W.mg_of X G nBadSet
  have MNoSuch := PySem.W.mg_of X G nNoSuch
  have MBadFamily := PySem.W.mg_of X G nBadFamily
  have MNoText := PySem.W.mg_of X G nNoText
  have XNoText : XCls K aNoText [.type "ValueError", .type "Exception", .type "BaseException", .type "object"] "ValueError.__new__" := xcls_mk e1 e2 e3 e4 e5 e6 e7 e8
  have DHeapError : XD1 K aHeapError := ⟨by rw [CHeapError]; rfl, YHeapError, m1⟩
  have xk : XK1 K aNoText := ⟨by rw [CNoText]; rfl, g1, g2, g3, g4, g5, m3, m4⟩
  have ktBadSet := kit_ref qBadSet CBadSet YBadSet sBadSet
  have ktNoSuch := kit_ref qNoSuch CNoSuch YNoSuch sNoSuch
  have ktBadFamily := kit_ref qBadFamily CBadFamily YBadFamily sBadFamily
  have ktNoText := kit_self (K := K) (C := aNoText)
  have ktV := kit_ve sV
  have F0 := fun_mk (st := (top 7)) l0 c0 k_0
  have b0 := F0.binds (ps := ["one", "bound"]) fun _ _ _ _ _ _ us hl => match us, hl with | [_, _], _ => rfl
  have F1 := fun_mk (st := (top 12)) l1 c1 k_1
  have b1 := F1.binds (ps := ["family"]) fun _ _ _ _ _ _ us hl => match us, hl with | [_], _ => rfl
  have F2 := fun_mk (st := (top 14)) l2 c2 k_2
  have b2 := F2.binds (ps := ["text"]) fun _ _ _ _ _ _ us hl => match us, hl with | [_], _ => rfl
  have F3 := fun_mk (st := (top 15)) l3 c3 k_3
  have b3 := F3.binds (ps := ["text"]) fun _ _ _ _ _ _ us hl => match us, hl with | [_], _ => rfl
  have F4 := fun_mk (st := (top 17)) l4 c4 k_4
  have b4 := F4.binds (ps := ["script", "k"]) fun _ _ _ _ _ _ us hl => match us, hl with | [_, _], _ => rfl
  have F5 := fun_mk (st := (top 18)) l5 c5 k_5
  have b5 := F5.binds (ps := ["found"]) fun _ _ _ _ _ _ us hl => match us, hl with | [_], _ => rfl
  have F6 := fun_mk (st := (top 19)) l6 c6 k_6
  have b6 := F6.binds (ps := ["things", "size"]) fun _ _ _ _ _ _ us hl => match us, hl with | [_, _], _ => rfl
  have F7 := fun_mk (st := (top 20)) l7 c7 k_7
  have b7 := F7.binds (ps := ["script", "start", "sets", "way"]) fun _ _ _ _ _ _ us hl => match us, hl with | [_, _, _, _], _ => rfl
  have F8 := fun_mk (st := (top 21)) l8 c8 k_8
  have b8 := F8.binds (ps := ["script"]) fun _ _ _ _ _ _ us hl => match us, hl with | [_], _ => rfl
  have F9 := fun_mk (st := (top 22)) l9 c9 k_9
  have b9 := F9.binds (ps := ["found", "due"]) fun _ _ _ _ _ _ us hl => match us, hl with | [_, _], _ => rfl
  have F10 := fun_mk (st := (top 23)) l10 c10 k_10
  have b10 := F10.binds (ps := ["e"]) fun _ _ _ _ _ _ us hl => match us, hl with | [_], _ => rfl
  have F11 := fun_mk (st := (top 24)) l11 c11 k_11
  have b11 := F11.binds (ps := ["family"]) fun _ _ _ _ _ _ us hl => match us, hl with | [_], _ => rfl
  have F12 := fun_mk (st := (top 25)) l12 c12 k_12
  have b12 := F12.binds (ps := ["cell"]) fun _ _ _ _ _ _ us hl => match us, hl with | [_], _ => rfl
  have F13 := fun_mk (st := (top 26)) l13 c13 k_13
  have b13 := F13.binds (ps := ["text", "cell"]) fun _ _ _ _ _ _ us hl => match us, hl with | [_, _], _ => rfl
  have F14 := fun_mk (st := (top 27)) l14 c14 k_14
  have b14 := F14.binds (ps := ["word"]) fun _ _ _ _ _ _ us hl => match us, hl with | [_], _ => rfl
  have F15 := fun_mk (st := (top 28)) l15 c15 k_15
  have b15 := F15.binds (ps := ["text"]) fun _ _ _ _ _ _ us hl => match us, hl with | [_], _ => rfl
  have F16 := fun_mk (st := (top 29)) l16 c16 k_16
  refine ⟨PySem.W.fnOf "law" "law" (defArgs (top 29)) (defBody (top 29)) (defScope (top 29)) .none kV16 dc16 pm16 an16 cd16 ct16, fun s v => .of_eq rfl, fun base _ _ => ?_⟩
  have q_rises_below : Cal l.prog w K mg base "rises_below" 1 (spRb K) := ⟨_, _, _, PySem.W.mg_of X G a0, ok_rises_below F0 , k_0, b0⟩
  have q_is_family : Cal l.prog w K mg base "is_family" 3 spIF := ⟨_, _, _, PySem.W.mg_of X G a1, ok_is_family F1 B T q_rises_below, k_1, b1⟩
  have q_read_set : CalX l.prog w K mg base "read_set" 3 (spRs aNoText) := ⟨_, _, _, PySem.W.mg_of X G a2, ok_read_set F2 B T XNoText MNoText, k_2, b2⟩
  have q_read : CalX l.prog w K mg base "read" 6 (spRd aNoText) := ⟨_, _, _, PySem.W.mg_of X G a3, ok_read F3 B XNoText MNoText q_is_family q_read_set, k_3, b3⟩
  have q__law_cell_at : Cal l.prog w K mg base "_law_cell_at" 1 (spCell K) := ⟨_, _, _, PySem.W.mg_of X G a4, ok__law_cell_at F4 B, k_4, b4⟩
  have q__law_whole : Cal l.prog w K mg base "_law_whole" 1 spWh := ⟨_, _, _, PySem.W.mg_of X G a5, ok__law_whole F5 B, k_5, b5⟩
  have q__law_sets : Cal l.prog w K mg base "_law_sets" 4 spSets := ⟨_, _, _, PySem.W.mg_of X G a6, ok__law_sets F6 B, k_6, b6⟩
  have q__law_family_by : Cal l.prog w K mg base "_law_family_by" 4 (spFam K) := ⟨_, _, _, PySem.W.mg_of X G a7, ok__law_family_by F7 B q__law_cell_at, k_7, b7⟩
  have q__law_size_of : Cal l.prog w K mg base "_law_size_of" 4 (spSz K) := ⟨_, _, _, PySem.W.mg_of X G a8, ok__law_size_of F8 B q__law_cell_at, k_8, b8⟩
  have q__law_is_sets : Cal l.prog w K mg base "_law_is_sets" 4 spIS := ⟨_, _, _, PySem.W.mg_of X G a9, ok__law_is_sets F9 B q__law_whole, k_9, b9⟩
  have q__law_marks_of : CalH l.prog w K mg base "_law_marks_of" 1 (spMk K aBadSet aNoSuch aBadFamily aNoText) := ⟨_, _, _, PySem.W.mg_of X G a10, ok__law_marks_of F10 B MBadSet MNoSuch MBadFamily MNoText, k_10, b10⟩
  have q__law_text : Cal l.prog w K mg base "_law_text" 2 spTx := ⟨_, _, _, PySem.W.mg_of X G a11, ok__law_text F11 B, k_11, b11⟩
  have q__law_sign_by : Cal l.prog w K mg base "_law_sign_by" 1 spSg := ⟨_, _, _, PySem.W.mg_of X G a12, ok__law_sign_by F12 , k_12, b12⟩
  have q__law_spoiled : Cal l.prog w K mg base "_law_spoiled" 6 spSp := ⟨_, _, _, PySem.W.mg_of X G a13, ok__law_spoiled F13 B q__law_sets q__law_text q__law_sign_by, k_13, b13⟩
  have q__law_number : Cal l.prog w K mg base "_law_number" 2 spNu := ⟨_, _, _, PySem.W.mg_of X G a14, ok__law_number F14 B, k_14, b14⟩
  have q__law_due : Cal l.prog w K mg base "_law_due" 5 spDu := ⟨_, _, _, PySem.W.mg_of X G a15, ok__law_due F15 B q__law_number, k_15, b15⟩
  exact ok_law F16 B MHeapError DHeapError m2 xk ktBadSet ktNoSuch ktBadFamily ktNoText ktV q_read q__law_cell_at q__law_sets q__law_family_by q__law_size_of q__law_is_sets q__law_marks_of q__law_text q__law_spoiled q__law_due
theorem walk {l : PySem.W.OpenLaw} {q : Program} {loose : List Str} {XP : (Str → Option Value) → Heap → Prop} {YP : World → Heap → Prop} {d : DefRec} {K : Params → PySem.W.Frag} (hn : l.most = some 63) (hdf : d.params.defaults = [])
    (hY : ∀ (w : World) (h : Heap), YP w h → (K w.params).In h)
    (F : ∀ (w : World) (mg : Str → Option Value) (fa : Addr) (h : Heap), (K w.params).In h → h.Ns mainGlobals mg → mg d.name = some (.ref fa) →
      ∃ fd : FuncData, (∀ (s : Shared) (u : Value), BindsTo s fd ⟨[u], []⟩ [("script", u)]) ∧ ∀ base : Heap, (K w.params).In base → base.Ns mainGlobals mg → FnOk l.prog w (K w.params) mg base CX0 9 fa fd ["script"] (spLaw (K w.params))) :
    PySem.W.WalkO q loose XP YP l.row.toRowW d [] (fun f vs => PySem.call f vs) :=
  L2.walk_of (n := 63) (k := 9) (x := "script") (CX := fun _ => CX0) (sp := fun w => spLaw (K w.params)) hn (by decide) hdf ⟨rfl, by decide, by decide⟩ hY F (fun _ _ a ns hl _ hS => ⟨a, ns, rfl, hS, hl, fun _ => rfl⟩) fun _ _ _ _ _ z => z
end K15
open PySem PySem.W PyProof.Rows
set_option maxRecDepth 100000 in
set_option maxHeartbeats 0 in
theorem PySem.Challenge.cw_shadowheaps_k15_families_read_or_refused_holds : PySem.Challenge.rw_shadowheaps_k15_families_read_or_refused.Holds := by
  w_on; o_law; k_head; (case hw => w_witness2)
  k_fill
  refine K15.walk (l := PySem.Challenge.rw_shadowheaps_k15_families_read_or_refused) rfl rfl (fun w h Y => PySem.W.kIn_of Y) ?F
  case F =>
    intro w mg fa h KX G hmg
    refine' K15.all_mk KX G hmg ?a0 ?l0 ?c0 ?k_0 ?a1 ?l1 ?c1 ?k_1 ?a2 ?l2 ?c2 ?k_2 ?a3 ?l3 ?c3 ?k_3 ?a4 ?l4 ?c4 ?k_4 ?a5 ?l5 ?c5 ?k_5 ?a6 ?l6 ?c6 ?k_6 ?a7 ?l7 ?c7 ?k_7 ?a8 ?l8 ?c8 ?k_8 ?a9 ?l9 ?c9 ?k_9 ?a10 ?l10 ?c10 ?k_10 ?a11 ?l11 ?c11 ?k_11 ?a12 ?l12 ?c12 ?k_12 ?a13 ?l13 ?c13 ?k_13 ?a14 ?l14 ?c14 ?k_14 ?a15 ?l15 ?c15 ?k_15 ?a16 ?l16 ?c16 ?k_16 ?t0 ?t1 ?t2 ?z0 ?z1 ?z2 ?z3 ?z4 ?z5 ?z6 ?z7 ?z8 ?z9 ?z10 ?z11 ?z12 ?z13 ?z14 ?z15 ?z16 ?z17 ?nHeapError ?CHeapError ?YHeapError ?nBadSet ?CBadSet ?YBadSet ?nNoSuch ?CNoSuch ?YNoSuch ?nBadFamily ?CBadFamily ?YBadFamily ?nNoText ?CNoText ?YNoText ?e1 ?e2 ?e3 ?e4 ?e5 ?e6 ?e7 ?e8 ?m1 ?m2 ?m3 ?m4 ?g1 ?g2 ?g3 ?g4 ?g5 ?qBadSet ?sBadSet ?qNoSuch ?sNoSuch ?qBadFamily ?sBadFamily ?sV
    (case a0 => k_is)
    (case l0 => k_is)
    (case c0 => k_is)
    (case k_0 => k_is)
    (case a1 => k_is)
    (case l1 => k_is)
    (case c1 => k_is)
    (case k_1 => k_is)
    (case a2 => k_is)
    (case l2 => k_is)
    (case c2 => k_is)
    (case k_2 => k_is)
    (case a3 => k_is)
    (case l3 => k_is)
    (case c3 => k_is)
    (case k_3 => k_is)
    (case a4 => k_is)
    (case l4 => k_is)
    (case c4 => k_is)
    (case k_4 => k_is)
    (case a5 => k_is)
    (case l5 => k_is)
    (case c5 => k_is)
    (case k_5 => k_is)
    (case a6 => k_is)
    (case l6 => k_is)
    (case c6 => k_is)
    (case k_6 => k_is)
    (case a7 => k_is)
    (case l7 => k_is)
    (case c7 => k_is)
    (case k_7 => k_is)
    (case a8 => k_is)
    (case l8 => k_is)
    (case c8 => k_is)
    (case k_8 => k_is)
    (case a9 => k_is)
    (case l9 => k_is)
    (case c9 => k_is)
    (case k_9 => k_is)
    (case a10 => k_is)
    (case l10 => k_is)
    (case c10 => k_is)
    (case k_10 => k_is)
    (case a11 => k_is)
    (case l11 => k_is)
    (case c11 => k_is)
    (case k_11 => k_is)
    (case a12 => k_is)
    (case l12 => k_is)
    (case c12 => k_is)
    (case k_12 => k_is)
    (case a13 => k_is)
    (case l13 => k_is)
    (case c13 => k_is)
    (case k_13 => k_is)
    (case a14 => k_is)
    (case l14 => k_is)
    (case c14 => k_is)
    (case k_14 => k_is)
    (case a15 => k_is)
    (case l15 => k_is)
    (case c15 => k_is)
    (case k_15 => k_is)
    (case a16 => k_is)
    (case l16 => k_is)
    (case c16 => k_is)
    (case k_16 => k_is)
    (case t0 => k_is)
    (case t1 => k_is)
    (case t2 => k_is)
    (case z0 => k_is)
    (case z1 => k_is)
    (case z2 => k_is)
    (case z3 => k_is)
    (case z4 => k_is)
    (case z5 => k_is)
    (case z6 => k_is)
    (case z7 => k_is)
    (case z8 => k_is)
    (case z9 => k_is)
    (case z10 => k_is)
    (case z11 => k_is)
    (case z12 => k_is)
    (case z13 => k_is)
    (case z14 => k_is)
    (case z15 => k_is)
    (case z16 => k_is)
    (case z17 => k_is)
    (case nHeapError => k_is)
    (case CHeapError => k_is)
    (case YHeapError => k_is)
    (case nBadSet => k_is)
    (case CBadSet => k_is)
    (case YBadSet => k_is)
    (case nNoSuch => k_is)
    (case CNoSuch => k_is)
    (case YNoSuch => k_is)
    (case nBadFamily => k_is)
    (case CBadFamily => k_is)
    (case YBadFamily => k_is)
    (case nNoText => k_is)
    (case CNoText => k_is)
    (case YNoText => k_is)
    (case e1 => k_is)
    (case e2 => k_is)
    (case e3 => first | rfl | decide | kernel_rfl)
    (case e4 => k_is)
    (case e5 => k_is)
    (case e6 => k_is)
    (case e7 => first | rfl | decide | kernel_rfl)
    (case e8 => k_is)
    (case m1 => k_is)
    (case m2 => k_is)
    (case m3 => k_is)
    (case m4 => k_is)
    (case g1 => k_is)
    (case g2 => k_is)
    (case g3 => k_is)
    (case g4 => k_is)
    (case g5 => k_is)
    (case qBadSet => first | rfl | decide)
    (case sBadSet => k_is)
    (case qNoSuch => first | rfl | decide)
    (case sNoSuch => k_is)
    (case qBadFamily => first | rfl | decide)
    (case sBadFamily => k_is)
    (case sV => k_is)

