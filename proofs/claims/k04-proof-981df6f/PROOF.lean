import PyProof.Rows.All
import Wide.All
import OpenK.AllK
import Wide.FinOn
import Lean
import PyProof.EqAt
import PyProof.EqKinds
import PyProof.TupleCall
import PyProof.Rows.SortRunsK
import PySem.Challenge.RW_shadowheaps_k04_families_refused
set_option Elab.async false
set_option linter.all false
set_option maxRecDepth 100000
set_option Elab.async false
set_option linter.all false
set_option maxRecDepth 100000
namespace L2
open PySem PySem.Spec PyProof.Rows

noncomputable abbrev Key := Sum Int Str
noncomputable def keyIs : Key → Value → Bool
  | .inl k, v => Value.isInt k v
  | .inr x, v => Value.isStrOf x v
noncomputable def keyH (w : World) : Key → Int
  | .inl k => hashInt k
  | .inr x => hashStr w x
theorem keyIs_shape : ∀ {k : Key} {v : Value}, keyIs k v = true → (∃ i t, k = Sum.inl i ∧ v = Value.int i t) ∨ (∃ x t, k = Sum.inr x ∧ v = Value.str x t)
  | .inl i, v, h => by
    obtain ⟨t, e⟩ := Value.isInt_shape (k := i) (v := v) h
    exact .inl ⟨i, t, rfl, e⟩
  | .inr x, v, h => by
    obtain ⟨t, e⟩ := Value.isStrOf_shape (x := x) (v := v) h
    exact .inr ⟨x, t, rfl, e⟩
theorem keyIs_int (i : Int) (t : Tok) : keyIs (.inl i) (.int i t) = true := by simp [keyIs, Value.isInt]
theorem keyIs_str (x : Str) (t : Tok) : keyIs (.inr x) (.str x t) = true := by simp [keyIs, Value.isStrOf]
theorem key_ll (a b : Int) : decide ((Sum.inl a : Key) = Sum.inl b) = (a == b) := by
  by_cases e : a = b
  · subst e; simp
  · have h : ¬ (Sum.inl a : Key) = Sum.inl b := fun q => e (Sum.inl.inj q)
    rw [decide_eq_false h]
    exact (beq_eq_false_iff_ne.mpr e).symm
theorem key_rr (a b : Str) : decide ((Sum.inr a : Key) = Sum.inr b) = decide (a = b) := by
  by_cases e : a = b
  · subst e; simp
  · have h : ¬ (Sum.inr a : Key) = Sum.inr b := fun q => e (Sum.inr.inj q)
    rw [decide_eq_false h, decide_eq_false e]
theorem key_lr (a : Int) (b : Str) : decide ((Sum.inl a : Key) = Sum.inr b) = false := decide_eq_false (fun q => nomatch q)
theorem key_rl (a : Str) (b : Int) : decide ((Sum.inr a : Key) = Sum.inl b) = false := decide_eq_false (fun q => nomatch q)

noncomputable def mixKind (prog : Program) (w : World) : PySem.KeyKind prog w Key where
  is := keyIs
  hash := keyH w
  inj := fun v a b ha hb => by
    rcases keyIs_shape ha with ⟨i, t, rfl, rfl⟩ | ⟨x, t, rfl, rfl⟩
    · rcases keyIs_shape hb with ⟨j, u, rfl, e⟩ | ⟨y, u, rfl, e⟩
      · injection e with e1 _; rw [e1]
      · exact nomatch e
    · rcases keyIs_shape hb with ⟨j, u, rfl, e⟩ | ⟨y, u, rfl, e⟩
      · exact nomatch e
      · injection e with e1 _; rw [e1]
  byValue := fun k v h => by
    rcases keyIs_shape h with ⟨i, t, rfl, rfl⟩ | ⟨x, t, rfl, rfl⟩ <;> rfl
  pyHash := fun hv h => by
    rcases keyIs_shape hv with ⟨i, t, rfl, rfl⟩ | ⟨x, t, rfl, rfl⟩
    · exact wpAny_pyHash_int h
    · exact wpAny_pyHash_str h
  eqBool := fun hu hv h => by
    rcases keyIs_shape hu with ⟨i, t, rfl, rfl⟩ | ⟨x, t, rfl, rfl⟩
    · rcases keyIs_shape hv with ⟨j, u, rfl, rfl⟩ | ⟨y, u, rfl, rfl⟩
      · rw [key_ll] at h; exact wpAny_eqBool_int h
      · rw [key_lr] at h; exact SeqAt.EqAt.int_str i t y u _ _ _ _ h
    · rcases keyIs_shape hv with ⟨j, u, rfl, rfl⟩ | ⟨y, u, rfl, rfl⟩
      · rw [key_rl] at h; exact SeqAt.EqAt.str_int x t j u _ _ _ _ h
      · rw [key_rr] at h; exact wpAny_eqBool_str h
  «strs» := fun k x t v h => by
    rcases keyIs_shape h with ⟨i, u, rfl, e⟩ | ⟨y, u, rfl, e⟩
    · exact nomatch e
    · injection e with e1 _
      subst e1
      cases v <;> rfl

theorem mixKind_int (prog : Program) (w : World) (i : Int) (t : Tok) : (mixKind prog w).is (.inl i) (.int i t) = true := keyIs_int i t
theorem mixKind_str (prog : Program) (w : World) (x : Str) (t : Tok) : (mixKind prog w).is (.inr x) (.str x t) = true := keyIs_str x t
end L2

namespace L2
open PySem PySem.Spec PyProof.Rows

inductive V where
  | non | bl (b : Bool) | int (i : Int) | str (x : Str) | byt (b : Array UInt8) | flt (b : UInt64) | ref (a : Addr) | ty (n : String)
  deriving DecidableEq

noncomputable def RelV : V → Value → Prop
  | .non, u => u = Value.none
  | .bl b, u => u = Value.bool b
  | .int i, u => ∃ t, u = Value.int i t
  | .str x, u => ∃ t, u = Value.str x t
  | .byt b, u => ∃ t, u = Value.bytes b t
  | .flt b, u => ∃ t, u = Value.float b t
  | .ref a, u => u = Value.ref a
  | .ty n, u => u = Value.type n

noncomputable abbrev Vals : List V → List Value → Prop := Paired RelV
theorem Vals.length {xs : List V} {us : List Value} (r : Vals xs us) : xs.length = us.length := Paired.length r
theorem Vals.get : ∀ {xs : List V} {us : List Value} {i : Nat} {x : V}, Vals xs us → xs[i]? = some x → ∃ u, us[i]? = some u ∧ RelV x u
  | _, _, _, _, .nil, e => by simp at e
  | _, _, 0, _, .cons r _, e => by simp at e; subst e; exact ⟨_, rfl, r⟩
  | _, _, i + 1, x, .cons _ t, e => by
    obtain ⟨u, h1, h2⟩ := Vals.get (i := i) (x := x) t (by simpa using e)
    exact ⟨u, by simpa using h1, h2⟩
theorem Vals.set {x : V} {u : Value} (r : RelV x u) : ∀ {xs : List V} {us : List Value} (i : Nat), Vals xs us → Vals (xs.set i x) (us.set i u)
  | _, _, _, .nil => .nil
  | _, _, 0, .cons _ t => .cons r t
  | _, _, i + 1, .cons q t => .cons q (Vals.set r i t)
theorem Vals.append : ∀ {xs ys : List V} {us ws : List Value}, Vals xs us → Vals ys ws → Vals (xs ++ ys) (us ++ ws)
  | _, _, _, _, .nil, s => s
  | _, _, _, _, .cons r t, s => .cons r (Vals.append t s)
theorem Vals.take : ∀ {xs : List V} {us : List Value} (n : Nat), Vals xs us → Vals (xs.take n) (us.take n)
  | _, _, 0, _ => .nil
  | _, _, _ + 1, .nil => .nil
  | _, _, n + 1, .cons r t => .cons r (Vals.take n t)
theorem Vals.drop : ∀ {xs : List V} {us : List Value} (n : Nat), Vals xs us → Vals (xs.drop n) (us.drop n)
  | _, _, 0, r => r
  | _, _, _ + 1, .nil => .nil
  | _, _, n + 1, .cons _ t => Vals.drop n t
theorem Vals.none_of : ∀ {xs : List V} {us : List Value} {i : Nat}, Vals xs us → xs[i]? = none → us[i]? = none := fun {xs us i} r e => by
  have h1 := r.length
  have h2 : xs.length ≤ i := List.getElem?_eq_none_iff.mp e
  exact List.getElem?_eq_none_iff.mpr (by omega)

noncomputable def RelO : Option V → Option Value → Prop
  | some v, some u => RelV v u
  | none, none => True
  | _, _ => False
noncomputable def KV {κ : Type} : List (κ × V) → List (κ × Value) → Prop := Paired fun (p : κ × V) (q : κ × Value) => p.1 = q.1 ∧ RelV p.2 q.2

noncomputable def kV : Key → V
  | .inl i => .int i
  | .inr x => .str x

inductive HO where
  | lst (xs : List V)
  | tup (xs : List V)
  | dK (kvs : List (Key × V)) | dT (kvs : List (List Key × V))
  | set (S : Int → Bool) (n : Nat)
  | ins (C dx : Addr) (fs : List (Str × V))
  | own (x : Addr)
  | xd (fs : List (Str × V))
  | met (f x : Addr)
  | rng (lo hi : Int)
  | frz (o : Obj) (u : HO)
  | tbl (ps : Array Value)
  | ext (φ : Heap → Prop)

noncomputable abbrev Hp := Addr → Option HO
noncomputable def upd (H : Hp) (a : Addr) (o : HO) : Hp := fun b => if b = a then some o else H b
theorem upd_same {H : Hp} {a : Addr} {o : HO} : upd H a o a = some o := by unfold upd; rw [if_pos rfl]
theorem upd_ne {H : Hp} {a b : Addr} {o : HO} (h : b ≠ a) : upd H a o b = H b := by unfold upd; rw [if_neg h]
theorem upd_upd {H : Hp} {a : Addr} {o u : HO} : upd (upd H a o) a u = upd H a u := by
  funext b; unfold upd; split <;> rfl
theorem ne_of {H : Hp} {a b : Addr} {o u : HO} (h : H a = some o) (h' : H b = some u) (d : o ≠ u) : a ≠ b := by
  intro e; subst e; rw [h] at h'; exact d (Option.some.inj h')
theorem ne_of_none {H : Hp} {a b : Addr} {o : HO} (h : H a = some o) (h' : H b = none) : a ≠ b := by
  intro e; subst e; rw [h] at h'; cases h'

section
variable (P : Program) (w : World)
noncomputable def ObjOk (H : Hp) (h : Heap) (a : Addr) : HO → Prop
  | .lst xs => xs.length ≤ sizeLine ∧ ∃ (its : List Value) (n : Nat), Vals xs its ∧ h.get? a = some { cls := .type "list", data := .seq its.toArray n }
  | .tup xs => xs.length ≤ sizeLine ∧ ∃ its : List Value, Vals xs its ∧ IsTup h a its.toArray
  | .dK kvs => kvs.length ≤ sizeLine ∧ (a == sysModules) = false ∧ ∃ vs, KV kvs vs ∧ h.DictOf (mixKind P w) a vs
  | .dT kvs => kvs.length ≤ sizeLine ∧ (a == sysModules) = false ∧ ∃ xs : List (List Key × Addr × Value),
      Paired (fun (p : List Key × V) (q : List Key × Addr × Value) => p.1 = q.1 ∧ H q.2.1 = some (.tup (p.1.map kV)) ∧ RelV p.2 q.2.2) kvs xs ∧
      ∃ o es ep, h.get? a = some o ∧ o.ExactDict ∧ o.data = .dict es ep ∧ es.toList = xs.map (entryOfKey (tupleKind (mixKind P w))) ∧ (xs.map (·.1)).Nodup
  | .set S n => h.SetOf (intKind P w) a S n
  | .ins C dx fs => H dx = some (.own a) ∧ fs.length ≤ 1000 ∧ dx ≠ a ∧ h.get? a = some (PySem.W.instObj C dx) ∧
      ∃ mA, h.Ns1 dx mA ∧ (∀ f, RelO (fs.lookup f) (mA f)) ∧ PySem.Within mA (fs.map (·.1))
  | .own _ => ∃ o, h.get? a = some o
  | .xd fs => ∃ mA, h.Ns1 a mA ∧ ∀ f, RelO (fs.lookup f) (mA f)
  | .rng lo hi => ∃ t u v, h.get? a = some { cls := .type "range", data := .fields #[.int lo t, .int hi u, .int 1 v] }
  | .frz o u => h.get? a = some o ∧ ObjOk H h a u
  | .tbl ps => h.get? a = some { cls := .none, data := .fields ps }
  | .met f x => h.get? a = some (PySem.W.methodObj (.ref f) (.ref x))
  | .ext φ => φ h ∧ (∃ o, h.get? a = some o) ∧ ∀ h1 h2 : Heap, φ h1 → (∀ o, h1.get? a = some o → h2.get? a = some o) → φ h2
noncomputable def HOk (H : Hp) (h : Heap) : Prop := ∀ a o, H a = some o → ObjOk P w H h a o
end

section
variable {P : Program} {w : World} {H H' : Hp} {h h' : Heap} {a : Addr} {o : HO}
theorem ObjOk.lt (x : ObjOk P w H h a o) : a < h.objs.size := by
  cases o with
  | lst xs => obtain ⟨_, _, _, _, e⟩ := x; exact Heap.lt_size e
  | tup xs => obtain ⟨_, _, _, p⟩ := x; exact p.lt
  | dK kvs => obtain ⟨_, _, _, _, o, _, _, e, _⟩ := x; exact Heap.lt_size e
  | dT kvs => obtain ⟨_, _, _, _, o, _, _, e, _⟩ := x; exact Heap.lt_size e
  | set S n => obtain ⟨o, _, _, _, e, _⟩ := x; exact Heap.lt_size e
  | ins C dx fs => obtain ⟨_, _, _, e, _⟩ := x; exact Heap.lt_size e
  | own y => obtain ⟨_, e⟩ := x; exact Heap.lt_size e
  | xd fs => obtain ⟨_, ⟨_, _, _, e, _⟩, _⟩ := x; exact Heap.lt_size e
  | rng lo hi => obtain ⟨_, _, _, e⟩ := x; exact Heap.lt_size e
  | frz ob u => obtain ⟨e, _⟩ := x; exact Heap.lt_size e
  | tbl ps => exact Heap.lt_size (show h.get? a = some _ from x)
  | met f y => exact Heap.lt_size (show h.get? a = some _ from x)
  | ext φ => obtain ⟨_, ⟨_, e⟩, _⟩ := x; exact Heap.lt_size e
theorem Paired.mapP {α β : Type} {F G : α → β → Prop} : ∀ {l₁ : List α} {l₂ : List β}, Paired F l₁ l₂ → (∀ a b, F a b → G a b) → Paired G l₁ l₂
  | _, _, .nil, _ => .nil
  | _, _, .cons r t, f => .cons (f _ _ r) (Paired.mapP t f)
theorem ObjOk.stay (x : ObjOk P w H h a o) (k : ∀ b u, (b = a ∨ H b = some (.own a)) → h.get? b = some u → h'.get? b = some u)
    (ho : ∀ b, H b = some (.own a) → H' b = some (.own a)) (ht : ∀ b xs, H b = some (.tup xs) → H' b = some (.tup xs)) : ObjOk P w H' h' a o := by
  induction o with
  | lst xs => obtain ⟨z, its, n, r, e⟩ := x; exact ⟨z, its, n, r, k _ _ (.inl rfl) e⟩
  | tup xs => obtain ⟨z, its, r, ob, e, c⟩ := x; exact ⟨z, its, r, ob, k _ _ (.inl rfl) e, c⟩
  | dK kvs => obtain ⟨z, y, vs, r, ob, es, ep, e, c⟩ := x; exact ⟨z, y, vs, r, ob, es, ep, k _ _ (.inl rfl) e, c⟩
  | dT kvs =>
    obtain ⟨z, y, xs, r, ob, es, ep, e, c⟩ := x
    exact ⟨z, y, xs, Paired.mapP r fun p q z => ⟨z.1, ht _ _ z.2.1, z.2.2⟩, ob, es, ep, k _ _ (.inl rfl) e, c⟩
  | set S n => obtain ⟨ob, es, ep, t, e, c⟩ := x; exact ⟨ob, es, ep, t, k _ _ (.inl rfl) e, c⟩
  | ins C dx fs =>
    obtain ⟨d, z, ne, e, mA, ⟨od, es, ep, e2, c⟩, r⟩ := x
    exact ⟨ho _ d, z, ne, k _ _ (.inl rfl) e, mA, ⟨od, es, ep, k _ _ (.inr d) e2, c⟩, r⟩
  | own y => obtain ⟨ob, e⟩ := x; exact ⟨ob, k _ _ (.inl rfl) e⟩
  | xd fs => obtain ⟨mA, ⟨od, es, ep, e, c⟩, r⟩ := x; exact ⟨mA, ⟨od, es, ep, k _ _ (.inl rfl) e, c⟩, r⟩
  | rng lo hi => obtain ⟨t, u, v, e⟩ := x; exact ⟨t, u, v, k _ _ (.inl rfl) e⟩
  | frz ob u ih => obtain ⟨e, q⟩ := x; exact ⟨k _ _ (.inl rfl) e, ih q⟩
  | tbl ps =>
    have e : h.get? a = some { cls := .none, data := .fields ps } := x
    show h'.get? a = some { cls := .none, data := .fields ps }
    exact k a _ (.inl rfl) e
  | met f y =>
    have e : h.get? a = some (PySem.W.methodObj (.ref f) (.ref y)) := x
    show h'.get? a = some (PySem.W.methodObj (.ref f) (.ref y))
    exact k a _ (.inl rfl) e
  | ext φ => obtain ⟨p, ⟨o, e⟩, st⟩ := x; exact ⟨st _ _ p fun o q => k _ _ (.inl rfl) q, ⟨o, k _ _ (.inl rfl) e⟩, st⟩
theorem HOk.lt (x : HOk P w H h) (e : H a = some o) : a < h.objs.size := (x a o e).lt
theorem HOk.fresh (x : HOk P w H h) (e : h.objs.size ≤ a) : H a = none := by
  cases q : H a with
  | none => rfl
  | some u => exact absurd (Nat.lt_of_lt_of_le (x.lt q) e) (Nat.lt_irrefl _)
theorem HOk.kept (x : HOk P w H h) (k : ∀ b u, h.get? b = some u → h'.get? b = some u) : HOk P w H h' := fun a o e =>
  (x a o e).stay (fun b u _ q => k b u q) (fun _ q => q) fun _ _ q => q
theorem HOk.laid (x : HOk P w H h) (k : ∀ b u, h.get? b = some u → h'.get? b = some u) (hp : h.objs.size ≤ a) (new : ObjOk P w (upd H a o) h' a o) : HOk P w (upd H a o) h' := fun b u e => by
  have hn := x.fresh hp
  by_cases hb : b = a
  · subst hb; rw [upd_same] at e; cases e; exact new
  · rw [upd_ne hb] at e
    exact (x b u e).stay (fun c v _ q => k c v q) (fun c q => by rw [upd_ne (ne_of_none q hn)]; exact q) fun c xs q => by rw [upd_ne (ne_of_none q hn)]; exact q
end

noncomputable def Rd (H : Hp) (a : Addr) (u : HO) : Prop := H a = some u ∨ ∃ o, H a = some (.frz o u)
theorem Rd.of {H : Hp} {a : Addr} {u : HO} (h : H a = some u) : Rd H a u := .inl h
theorem Rd.ok {P : Program} {w : World} {H : Hp} {h : Heap} {a : Addr} {u : HO} (r : Rd H a u) (x : HOk P w H h) : ObjOk P w H h a u := by
  rcases r with r | ⟨o, r⟩
  · exact x a u r
  · obtain ⟨_, q⟩ := x a _ r
    exact q
noncomputable def Mut : Option HO → Prop
  | some (.lst _) => True
  | some (.dK _) => True
  | some (.dT _) => True
  | some (.set _ _) => True
  | some (.ins _ _ _) => True
  | some (.ext _) => True
  | _ => False
section
variable {P : Program} {w : World} {H : Hp} {h h' : Heap} {x e : Addr} {o' : HO}
theorem HOk.write (ok : HOk P w H h) (mu : Mut (H x)) (he : e = x ∨ H e = some (.own x)) (k : ∀ b u, b ≠ e → h.get? b = some u → h'.get? b = some u) (heo : ∃ u, h'.get? e = some u)
    (new : ObjOk P w (upd H x o') h' x o') : HOk P w (upd H x o') h' := fun b u q => by
  have nown : ∀ c y, H c = some (.own y) → c ≠ x := fun c y r z => by subst z; rw [r] at mu; exact mu
  have ntup : ∀ c xs, H c = some (.tup xs) → c ≠ x := fun c xs r z => by subst z; rw [r] at mu; exact mu
  by_cases hb : b = x
  · subst hb; rw [upd_same] at q; cases q; exact new
  · rw [upd_ne hb] at q
    by_cases hbe : b = e
    · have q' : H b = some (.own x) := by
        rcases he with z | z
        · exact absurd (hbe.trans z) hb
        · rw [hbe]; exact z
      rw [q] at q'; cases q'
      obtain ⟨v, hv⟩ := heo
      exact ⟨v, by rw [hbe]; exact hv⟩
    · refine (ok b u q).stay (fun c v hc r => k c v ?_ r) (fun c r => by rw [upd_ne (nown c b r)]; exact r) fun c xs r => by rw [upd_ne (ntup c xs r)]; exact r
      rcases hc with rfl | hc
      · exact hbe
      · rintro rfl
        rcases he with z | z
        · exact nown c b hc z
        · rw [hc] at z; cases z; exact hb rfl
end

structure Un (fs ex : List Addr) (H H' : Hp) (h h' : Heap) : Prop where
  keep : ∀ b o, h.get? b = some o → H b = none → b ∉ fs → b ∉ ex → h'.get? b = some o
  slot : ∀ b o, h.get? b = some o → H b = none → b ∈ fs → b ∉ ex → ∃ sl, h'.get? b = some { o with slots := sl }
  free : ∀ b o, h.get? b = some o → H b = none → b ∉ ex → H' b = none
  there : ∀ b o, h.get? b = some o → b ∉ ex → ∃ o', h'.get? b = some o'
  tups : ∀ b xs, H b = some (.tup xs) → H' b = some (.tup xs)
  frzs : ∀ b o u, H b = some (.frz o u) → H' b = some (.frz o u)
  tbls : ∀ b ps, H b = some (.tbl ps) → ∃ more, H' b = some (.tbl (ps ++ more))
section
variable {fs fs' ex ex' : List Addr} {H H1 H2 : Hp} {h h1 h2 h' : Heap} {a x e : Addr} {o : HO}
theorem Un.any (u : Un fs ex H H1 h h1) {b : Addr} {ob : Obj} (q : h.get? b = some ob) (n : H b = none) (hx : b ∉ ex) : ∃ sl, h1.get? b = some { ob with slots := sl } := by
  by_cases hb : b ∈ fs
  · exact u.slot b ob q n hb hx
  · exact ⟨ob.slots, u.keep b ob q n hb hx⟩
theorem Un.trans (a : Un fs ex H H1 h h1) (b : Un fs ex H1 H2 h1 h2) : Un fs ex H H2 h h2 where
  keep := fun c ob q n hc hx => b.keep c ob (a.keep c ob q n hc hx) (a.free c ob q n hx) hc hx
  slot := fun c ob q n hc hx => by
    obtain ⟨sl, e1⟩ := a.slot c ob q n hc hx
    obtain ⟨sl', e2⟩ := b.slot c _ e1 (a.free c ob q n hx) hc hx
    exact ⟨sl', e2⟩
  free := fun c ob q n hx => by
    obtain ⟨o', e1⟩ := a.there c ob q hx
    exact b.free c o' e1 (a.free c ob q n hx) hx
  there := fun c ob q hx => by
    obtain ⟨o', e1⟩ := a.there c ob q hx
    exact b.there c o' e1 hx
  tups := fun c xs q => b.tups c xs (a.tups c xs q)
  frzs := fun c ob xs q => b.frzs c ob xs (a.frzs c ob xs q)
  tbls := fun c ps q => by
    obtain ⟨m1, e1⟩ := a.tbls c ps q
    obtain ⟨m2, e2⟩ := b.tbls c _ e1
    exact ⟨m1 ++ m2, by rw [e2, Array.append_assoc]⟩
theorem Un.kept (k : ∀ b u, h.get? b = some u → h'.get? b = some u) : Un fs ex H H h h' :=
  ⟨fun b ob q _ _ _ => k b ob q, fun b ob q _ _ _ => ⟨ob.slots, k b ob q⟩, fun _ _ _ n _ => n, fun b ob q _ => ⟨ob, k b ob q⟩, fun _ _ q => q, fun _ _ _ q => q, fun _ ps q => ⟨#[], by rw [q]; simp⟩⟩
theorem Un.refl : Un fs ex H H h h := Un.kept fun _ _ q => q
theorem Un.laid (k : ∀ b u, h.get? b = some u → h'.get? b = some u) (hp : h.objs.size ≤ a) (hn : H a = none) : Un fs ex H (upd H a o) h h' where
  keep := fun b u q _ _ _ => k b u q
  slot := fun b u q _ _ _ => ⟨u.slots, k b u q⟩
  free := fun b u q n _ => by rw [upd_ne (Nat.ne_of_lt (Nat.lt_of_lt_of_le (Heap.lt_size q) hp))]; exact n
  there := fun b u q _ => ⟨u, k b u q⟩
  tups := fun b xs q => by rw [upd_ne (ne_of_none q hn)]; exact q
  frzs := fun b u xs q => by rw [upd_ne (ne_of_none q hn)]; exact q
  tbls := fun b ps q => ⟨#[], by rw [upd_ne (ne_of_none q hn), q]; simp⟩
theorem Un.write (mu : Mut (H x)) (he : e = x ∨ H e = some (.own x)) (k : ∀ b u, b ≠ e → h.get? b = some u → h'.get? b = some u) (heo : ∃ u, h'.get? e = some u) : Un fs ex H (upd H x o) h h' := by
  have hx : ∀ b, H b = none → b ≠ x := fun b n z => by subst z; rw [n] at mu; exact mu
  have hb : ∀ b, H b = none → b ≠ e := fun b n z => by
    subst z
    rcases he with r | r
    · exact hx b n r
    · rw [n] at r; cases r
  have hm : ∀ b u, H b = some u → ¬ Mut (some u) → b ≠ x := fun b u q nm z => by subst z; rw [q] at mu; exact nm mu
  refine ⟨fun b u q n _ _ => k b u (hb b n) q, fun b u q n _ _ => ⟨u.slots, k b u (hb b n) q⟩, fun b u q n _ => by rw [upd_ne (hx b n)]; exact n, fun b u q _ => ?_,
    fun b xs q => by rw [upd_ne (hm b _ q fun z => z)]; exact q, fun b u xs q => by rw [upd_ne (hm b _ q fun z => z)]; exact q, fun b ps q => ⟨#[], by rw [upd_ne (hm b _ q fun z => z), q]; simp⟩⟩
  by_cases hbe : b = e
  · subst hbe; exact heo
  · exact ⟨u, k b u hbe q⟩
theorem Un.mono (u : Un fs ex H H1 h h1) (hs : ∀ b ∈ fs, b ∈ fs') (hx : ∀ b ∈ ex, b ∈ ex') : Un fs' ex' H H1 h h1 :=
  ⟨fun b ob q n hb he => u.keep b ob q n (fun z => hb (hs b z)) fun z => he (hx b z), fun _ _ q n _ he => u.any q n fun z => he (hx _ z), fun b ob q n he => u.free b ob q n fun z => he (hx b z), fun b ob q he => u.there b ob q fun z => he (hx b z), u.tups, u.frzs, u.tbls⟩
end

noncomputable def trk (h : Heap) (H : Hp) : List Addr := (List.range h.objs.size).filter fun a => (H a).isSome
noncomputable def hidT (h : Heap) (H : Hp) : Heap := PySem.W.hideAll h (trk h H)
theorem hidT_size (h : Heap) (H : Hp) : (hidT h H).objs.size = h.objs.size := PySem.W.hideAll_size _ _
theorem hidT_get {h : Heap} {H : Hp} {b : Addr} {o : Obj} (e : h.get? b = some o) (n : H b = none) : (hidT h H).get? b = some o :=
  PySem.W.hideAll_get _ e fun hm => by
    have q : (H b).isSome = true := (List.mem_filter.mp hm).2
    rw [n] at q; simp at q
theorem of_hidT {h : Heap} {H : Hp} {b : Addr} {o : Obj} (e : (hidT h H).get? b = some o) : h.get? b = some o ∧ H b = none := by
  have e' : h.get? b = some o := PySem.W.of_hideAll (trk h H) e
  refine ⟨e', ?_⟩
  cases q : H b with
  | none => rfl
  | some x =>
    have hm : b ∈ trk h H := List.mem_filter.mpr ⟨List.mem_range.mpr (Heap.lt_size e'), by simp [q]⟩
    have z : (hidT h H).get? b = none := PySem.W.hideAll_none (trk h H) hm
    rw [z] at e; cases e

noncomputable def allNews (g h : Heap) (L : Addr) : List (Addr × Obj) := (List.range h.objs.size).filterMap fun a => if a = L ∨ (g.get? a).isSome = true then none else (h.get? a).map fun o => (a, o)
noncomputable def rest (g h : Heap) (L d : Addr) : List (Addr × Obj) := (allNews g h L).filter fun p => decide (p.1 ≠ d)
end L2

namespace L2
open PySem PySem.Spec PyProof.Rows

structure Mod (K : PySem.W.Frag) (mg : Str → Option Value) (base : Heap) : Prop where
  kin : K.In base
  glob : base.Ns mainGlobals mg
  blt : ∃ mb, base.Ns builtinsNs mb ∧ ∀ x : Str, x ≠ "__name__" → mb x = bootBuiltins x
  nolimit : base.NoLimit

/-- the context: a def's body (or a comprehension's block) running. base: fixed through the whole law; s₀, H₀: the entry; outer: the frames whose slots others may change (a def's callers); stack: all frames that run;
   ex: iterators that were made ahead of the entry and are walked here (a comprehension's); fn: the names whose cells were made at the entry (a def: all; a comprehension's block: its own); calm: not within an except suite; pn: pins that every state bears; xe: what is wanted of an exception that leaves the code -/
structure Cx where
  prog : Program
  w : World
  K : PySem.W.Frag
  mg : Str → Option Value
  base : Heap
  A : Around
  N : List Str
  s₀ : Shared
  H₀ : Hp
  env : Env
  outer : List Env
  stack : List Env
  ex : List Addr
  fn : Str → Bool
  calm : Bool
  pn : List (Addr × Obj)
  xe : Value → Shared → Prop
noncomputable def frs (l : List Env) : List Addr := l.filterMap (·.frame)
noncomputable abbrev Cx.fs (X : Cx) : List Addr := frs X.outer

noncomputable def Vis (sc : Scope) (x : Str) : Prop := sc.names.lookup x = some .local ∨ sc.names.lookup x = some .cell ∨ sc.names.lookup x = some .free
noncomputable def Loc (sc : Scope) (x : Str) : Prop := sc.names.lookup x = some .local ∨ sc.names.lookup x = some .cell
noncomputable def Look (env : Env) (h : Heap) (m : Str → Option Value) (x : Str) (u : Value) : Prop :=
  (env.kindOf x = some .local ∧ m x = some u) ∨ ((env.kindOf x = some .cell ∨ env.kindOf x = some .free) ∧ ∃ c, env.cells.lookup x = some c ∧ h.IsCell c (some u))

structure Cx.Ok (X : Cx) : Prop where
  mod : Mod X.K X.mg X.base
  kind : X.env.scope.kind = .function
  glob : X.env.globals = mainGlobals
  blt : X.env.builtins = builtinsNs
  above : X.s₀.heap.objs.size ≤ X.env.locals
  inj : ∀ x y c, X.env.cells.lookup x = some c → X.env.cells.lookup y = some c → x = y
  has : ∀ x, (X.env.kindOf x = some .cell ∨ X.env.kindOf x = some .free) → ∃ c, X.env.cells.lookup x = some c
  cab : ∀ x c, X.fn x = true → X.env.cells.lookup x = some c → X.s₀.heap.objs.size ≤ c
  hd : X.calm = true → X.A.handled = none
  frames : X.A.frames = some X.stack
  stk : X.stack = X.outer ∨ (X.stack = X.env :: X.outer ∧ X.env.frame = some X.env.locals)
  exf : ∀ b ∈ X.ex, b ≠ X.env.locals ∧ ∀ x c, X.env.cells.lookup x = some c → c ≠ b
  bs : ∀ b o, X.base.get? b = some o → X.s₀.heap.get? b = some o ∧ X.H₀ b = none
  bsz : X.base.objs.size ≤ X.s₀.heap.objs.size
  noex : ∀ b o, X.base.get? b = some o → b ∉ X.ex
  exfs : ∀ b ∈ X.ex, b ∉ X.fs
  funs : X.s₀.heap.FunFrames X.base X.outer
  frf : ∀ b ∈ X.fs, X.H₀ b = none

structure Inv (X : Cx) (pins : List (Addr × Obj)) (σ : List (Option V)) (H : Hp) (s : Shared) : Prop where
  ok : X.Ok
  os : s.os = X.s₀.os
  bare : AllBare s.gens
  base : Un X.fs X.ex X.H₀ H X.s₀.heap s.heap
  loc : ∃ m, s.heap.Ns X.env.locals m ∧ ∀ (i : Nat) (x : Str) (v : V), X.N[i]? = some x → σ[i]? = some (some v) → Vis X.env.scope x → ∃ u, RelV v u ∧ Look X.env s.heap m x u
  cell : ∀ x c, X.env.cells.lookup x = some c → ∃ v, s.heap.IsCell c v
  free : H X.env.locals = none
  freeC : ∀ x c, X.env.cells.lookup x = some c → H c = none
  pin : ∀ p ∈ X.pn ++ pins, s.heap.get? p.1 = some p.2 ∧ H p.1 = none ∧ p.1 ≠ X.env.locals ∧ p.1 ∉ X.fs ∧ ∀ v, p.2.data ≠ .cell v
  hok : HOk X.prog X.w H s.heap
  len : σ.length = X.N.length

section
variable {X : Cx} {pins : List (Addr × Obj)} {σ : List (Option V)} {H H' : Hp} {s : Shared} {h' : Heap}

theorem Cx.Ok.nofr (ok : X.Ok) {b : Addr} {o : Obj} (e : X.base.get? b = some o) : b ∉ X.fs := fun hb => by
  have := (ok.funs.mem hb).1
  rw [e] at this; cases this
theorem Inv.bs (I : Inv X pins σ H s) : ∀ b o, X.base.get? b = some o → s.heap.get? b = some o ∧ H b = none := fun b o e =>
  ⟨I.base.keep b o (I.ok.bs b o e).1 (I.ok.bs b o e).2 (I.ok.nofr e) (I.ok.noex b o e), I.base.free b o (I.ok.bs b o e).1 (I.ok.bs b o e).2 (I.ok.noex b o e)⟩
theorem Inv.bk (I : Inv X pins σ H s) : ∀ b o, X.base.get? b = some o → s.heap.get? b = some o := fun b o e => (I.bs b o e).1
theorem Inv.mod (I : Inv X pins σ H s) : Mod X.K X.mg X.base := I.ok.mod
theorem Inv.kIn (I : Inv X pins σ H s) : X.K.In s.heap := I.ok.mod.kin.keeps I.bk
theorem Inv.nolimit (I : Inv X pins σ H s) : s.heap.NoLimit := I.ok.mod.nolimit.keeps I.bk
theorem Inv.fr (I : Inv X pins σ H s) : ∃ m, Fr X.base X.env.locals s.heap m :=
  let ⟨m, hn, _⟩ := I.loc
  ⟨m, hn, I.bk, Nat.le_trans I.ok.bsz I.ok.above⟩
theorem Inv.lt (I : Inv X pins σ H s) : X.env.locals < s.heap.objs.size := let ⟨_, hn, _⟩ := I.loc; hn.lt
theorem Inv.sz (I : Inv X pins σ H s) : X.s₀.heap.objs.size ≤ s.heap.objs.size := Nat.le_trans I.ok.above (Nat.le_of_lt I.lt)
theorem Inv.nofs (I : Inv X pins σ H s) {a : Addr} (h : s.heap.objs.size ≤ a) : a ∉ X.fs := fun hb => by
  obtain ⟨_, o, ho, _⟩ := I.ok.funs.mem hb
  exact absurd (Nat.lt_of_lt_of_le (Heap.lt_size ho) (Nat.le_trans I.sz h)) (Nat.lt_irrefl _)
theorem Inv.cne (I : Inv X pins σ H s) : ∀ x c, X.env.cells.lookup x = some c → c ≠ X.env.locals := fun x c e z => by
  obtain ⟨v, o, ho, hd⟩ := I.cell x c e
  obtain ⟨m, ⟨o', es, ep, ho', hd', _⟩, _⟩ := I.loc
  rw [z, ho'] at ho; cases ho; rw [hd'] at hd; cases hd
theorem Inv.funs (I : Inv X pins σ H s) : s.heap.FunFrames X.base X.outer := by
  have all : ∀ (l : List Env), (∀ b ∈ frs l, b ∈ X.fs) → X.s₀.heap.FunFrames X.base l → s.heap.FunFrames X.base l := by
    intro l
    induction l with
    | nil => intro _ _; trivial
    | cons env r ih =>
      intro hs hl
      obtain ⟨hk, ⟨L, o, hf, hn, ho, hd⟩, hr⟩ := hl
      have hL : L ∈ X.fs := hs L (by unfold frs; rw [List.filterMap_cons, hf]; exact List.mem_cons_self)
      obtain ⟨sl, e⟩ := I.base.slot L o ho (I.ok.frf L hL) hL fun z => I.ok.exfs L z hL
      exact ⟨hk, ⟨L, _, hf, hn, e, hd⟩, ih (fun b hb => hs b (by unfold frs; rw [List.filterMap_cons, hf]; exact List.mem_cons_of_mem _ hb)) hr⟩
  exact all X.outer (fun _ hb => hb) I.ok.funs

theorem Inv.stack (I : Inv X pins σ H s) : s.heap.FunFrames X.base X.stack := by
  rcases I.ok.stk with e | ⟨e, hf⟩
  · rw [e]; exact I.funs
  · rw [e]
    obtain ⟨m, hn, _⟩ := I.loc
    refine .cons (by rw [I.ok.kind]; decide) hf hn ?_ I.funs
    exact Heap.get?_none_of_le (Nat.le_trans I.ok.bsz I.ok.above)
theorem Inv.stkSub (I : Inv X pins σ H s) : ∀ b ∈ frs X.stack, b ∈ X.env.locals :: X.fs := fun b hb => by
  rcases I.ok.stk with e | ⟨e, hf⟩
  · rw [e] at hb; exact List.mem_cons_of_mem _ hb
  · rw [e] at hb
    unfold frs at hb
    rw [List.filterMap_cons, hf] at hb
    exact hb
theorem Inv.stkFree (I : Inv X pins σ H s) : ∀ b ∈ frs X.stack, H b = none := fun b hb => by
  rcases List.mem_cons.mp (I.stkSub b hb) with e | hb
  · rw [e]; exact I.free
  · obtain ⟨_, o, ho, _⟩ := I.ok.funs.mem hb
    exact I.base.free b o ho (I.ok.frf b hb) fun z => I.ok.exfs b z hb

theorem Inv.step {g' : Array GenState} {t' : Nat} {d' : Drawn} {ch : List Addr} (I : Inv X pins σ H s)
    (hch : ∀ b ∈ ch, (b ∈ X.ex ∨ X.s₀.heap.objs.size ≤ b) ∧ b ≠ X.env.locals ∧ (∀ x c, X.env.cells.lookup x = some c → c ≠ b) ∧ ∀ p ∈ X.pn ++ pins, p.1 ≠ b)
    (keep : ∀ b o, b ≠ X.env.locals → b ∉ X.fs → b ∉ ch → s.heap.get? b = some o → H b = none → h'.get? b = some o)
    (slot : ∀ b o, b ≠ X.env.locals → b ∈ X.fs → b ∉ ch → s.heap.get? b = some o → H b = none → ∃ sl, h'.get? b = some { o with slots := sl }) (free : ∀ b o, b ∉ ch → s.heap.get? b = some o → H b = none → H' b = none)
    (there : ∀ b o, b ∉ ch → s.heap.get? b = some o → ∃ o', h'.get? b = some o')
    (tups : ∀ b xs, H b = some (.tup xs) → H' b = some (.tup xs)) (frzs : ∀ b o u, H b = some (.frz o u) → H' b = some (.frz o u)) (tbls : ∀ b ps, H b = some (.tbl ps) → ∃ more, H' b = some (.tbl (ps ++ more)))
    (ns : ∀ m, s.heap.Ns X.env.locals m → h'.Ns X.env.locals m) (hok : HOk X.prog X.w H' h') (hg : AllBare g') :
    Inv X pins σ H' { s with heap := h', gens := g', drawn := d', toks := t' } := by
  have neL : ∀ b o, X.s₀.heap.get? b = some o → b ≠ X.env.locals := fun b o e => Nat.ne_of_lt (Nat.lt_of_lt_of_le (Heap.lt_size e) I.ok.above)
  have neC : ∀ b o, X.s₀.heap.get? b = some o → b ∉ X.ex → b ∉ ch := fun b o e hx hb => by
    rcases (hch b hb).1 with z | z
    · exact hx z
    · exact absurd (Nat.lt_of_lt_of_le (Heap.lt_size e) z) (Nat.lt_irrefl _)
  have cellK : ∀ x c, X.env.cells.lookup x = some c → ∀ v, s.heap.IsCell c v → h'.IsCell c v := fun x c e v ⟨o, ho, hd⟩ => by
    have nch : c ∉ ch := fun z => (hch c z).2.2.1 x c e rfl
    by_cases hc : c ∈ X.fs
    · obtain ⟨sl, q⟩ := slot c o (I.cne x c e) hc nch ho (I.freeC x c e)
      exact ⟨_, q, hd⟩
    · exact ⟨o, keep c o (I.cne x c e) hc nch ho (I.freeC x c e), hd⟩
  refine ⟨I.ok, I.os, hg, ⟨fun b o e n hb hx => ?_, fun b o e n hb hx => ?_, fun b o e n hx => ?_, fun b o e hx => ?_, fun b xs e => tups b xs (I.base.tups b xs e), fun b o xs e => frzs b o xs (I.base.frzs b o xs e), fun b ps e => ?_⟩, ?_, fun x c e => ?_, ?_, fun x c e => ?_, fun p hp => ?_, hok, I.len⟩
  · exact keep b o (neL b o e) hb (neC b o e hx) (I.base.keep b o e n hb hx) (I.base.free b o e n hx)
  · obtain ⟨sl, e1⟩ := I.base.slot b o e n hb hx
    obtain ⟨sl', e2⟩ := slot b _ (neL b o e) hb (neC b o e hx) e1 (I.base.free b o e n hx)
    exact ⟨sl', e2⟩
  · obtain ⟨o', e1⟩ := I.base.there b o e hx
    exact free b o' (neC b o e hx) e1 (I.base.free b o e n hx)
  · obtain ⟨o', e1⟩ := I.base.there b o e hx
    exact there b o' (neC b o e hx) e1
  · obtain ⟨m1, e1⟩ := I.base.tbls b ps e
    obtain ⟨m2, e2⟩ := tbls b _ e1
    exact ⟨m1 ++ m2, by rw [e2, Array.append_assoc]⟩
  · obtain ⟨m, hn, hl⟩ := I.loc
    refine ⟨m, ns m hn, fun i x v e1 e2 e3 => ?_⟩
    obtain ⟨u, r, l⟩ := hl i x v e1 e2 e3
    refine ⟨u, r, ?_⟩
    rcases l with l | ⟨k, c, e, z⟩
    · exact .inl l
    · exact .inr ⟨k, c, e, cellK x c e _ z⟩
  · obtain ⟨v, z⟩ := I.cell x c e
    exact ⟨v, cellK x c e v z⟩
  · obtain ⟨m, ⟨o, _, _, ho, _⟩, _⟩ := I.loc
    exact free _ o (fun z => (hch _ z).2.1 rfl) ho I.free
  · obtain ⟨v, o, ho, hd⟩ := I.cell x c e
    exact free c o (fun z => (hch c z).2.2.1 x c e rfl) ho (I.freeC x c e)
  · obtain ⟨e, n, ne, nf, d⟩ := I.pin p hp
    have nch : p.1 ∉ ch := fun z => (hch p.1 z).2.2.2 p hp rfl
    exact ⟨keep p.1 p.2 ne nf nch e n, free p.1 p.2 nch e n, ne, nf, d⟩
theorem Inv.un {t' : Nat} (I : Inv X pins σ H s) (u : Un X.fs [] H H' s.heap h') (hok : HOk X.prog X.w H' h') : Inv X pins σ H' { s with heap := h', toks := t' } := by
  obtain ⟨m, ⟨o, es, ep, ho, r⟩, _⟩ := id I.loc
  obtain ⟨sl, hL⟩ := u.any ho I.free (by simp)
  exact I.step (g' := s.gens) (d' := s.drawn) (ch := []) (fun _ z => nomatch z) (fun b o _ hb _ e n => u.keep b o e n hb (by simp)) (fun b o _ hb _ e n => u.slot b o e n hb (by simp)) (fun b o _ e n => u.free b o e n (by simp)) (fun b o _ e => u.there b o e (by simp)) u.tups u.frzs u.tbls (fun m' hm => by
    obtain ⟨o', es', ep', ho', r'⟩ := hm
    rw [ho] at ho'; cases ho'
    exact ⟨_, es', ep', hL, r'⟩) hok I.bare
theorem Inv.call {g' : Array GenState} {t' : Nat} {d' : Drawn} {ch : List Addr} (I : Inv X pins σ H s) (u : Un (frs X.stack) ch H H' s.heap h') (hok : HOk X.prog X.w H' h') (hg : AllBare g')
    (hch : ∀ b ∈ ch, (b ∈ X.ex ∨ X.s₀.heap.objs.size ≤ b) ∧ b ≠ X.env.locals ∧ (∀ x c, X.env.cells.lookup x = some c → c ≠ b) ∧ ∀ p ∈ X.pn ++ pins, p.1 ≠ b) :
    Inv X pins σ H' { s with heap := h', gens := g', drawn := d', toks := t' } := by
  obtain ⟨m, ⟨o, es, ep, ho, r⟩, _⟩ := id I.loc
  obtain ⟨sl, hL⟩ := u.any ho I.free fun z => (hch _ z).2.1 rfl
  exact I.step (ch := ch) hch (fun b o hL hb hc e n => u.keep b o e n (fun z => (List.mem_cons.mp (I.stkSub b z)).elim hL hb) hc) (fun b o _ _ hc e n => u.any e n hc) (fun b o hc e n => u.free b o e n hc) (fun b o hc e => u.there b o e hc) u.tups u.frzs u.tbls (fun m' hm => by
    obtain ⟨o', es', ep', ho', r'⟩ := hm
    rw [ho] at ho'; cases ho'
    exact ⟨_, es', ep', hL, r'⟩) hok hg
theorem Inv.turned {t' : Nat} {it : Addr} (I : Inv X pins σ H s) (k : ∀ b o, b ≠ it → s.heap.get? b = some o → h'.get? b = some o) (hn : H it = none) (hL : it ≠ X.env.locals)
    (h1 : it ∈ X.ex ∨ X.s₀.heap.objs.size ≤ it) (h2 : ∀ x c, X.env.cells.lookup x = some c → c ≠ it) (h3 : ∀ p ∈ X.pn ++ pins, p.1 ≠ it) : Inv X pins σ H { s with heap := h', toks := t' } := by
  have nit : ∀ b u, H b = some u → b ≠ it := fun b u e z => by rw [z, hn] at e; cases e
  refine I.step (g' := s.gens) (d' := s.drawn) (ch := [it]) (fun b hb => ?_) (fun b o _ _ hc e _ => k b o (fun z => hc (by simp [z])) e) (fun b o _ _ hc e _ => ⟨o.slots, k b o (fun z => hc (by simp [z])) e⟩) (fun _ _ _ _ n => n)
    (fun b o hc e => ⟨o, k b o (fun z => hc (by simp [z])) e⟩) (fun _ _ e => e) (fun _ _ _ e => e) (fun b ps e => ⟨#[], by rw [e]; simp⟩) (fun m hm => ?_) (fun b u e => ?_) I.bare
  · have e : b = it := by simpa using hb
    subst e
    exact ⟨h1, hL, h2, h3⟩
  · obtain ⟨o, es, ep, ho, r⟩ := hm
    exact ⟨o, es, ep, k _ o (Ne.symm hL) ho, r⟩
  · refine (I.hok b u e).stay (fun c v hc q => k c v ?_ q) (fun _ q => q) fun _ _ q => q
    rcases hc with z | z
    · rw [z]; exact nit b u e
    · exact nit c _ z
theorem Inv.tok (I : Inv X pins σ H s) (t : Nat) : Inv X pins σ H { s with toks := t } := I.un (h' := s.heap) (t' := t) Un.refl I.hok
theorem Inv.kept {t' : Nat} (I : Inv X pins σ H s) (k : ∀ b u, s.heap.get? b = some u → h'.get? b = some u) : Inv X pins σ H { s with heap := h', toks := t' } := I.un (Un.kept k) (I.hok.kept k)
theorem Inv.laid {a : Addr} {o : HO} {t' : Nat} (I : Inv X pins σ H s) (k : ∀ b u, s.heap.get? b = some u → h'.get? b = some u) (hp : s.heap.objs.size ≤ a) (new : ObjOk X.prog X.w (upd H a o) h' a o) :
    Inv X pins σ (upd H a o) { s with heap := h', toks := t' } := I.un (Un.laid k hp (I.hok.fresh hp)) (I.hok.laid k hp new)
theorem Inv.write {x e : Addr} {o : HO} {t' : Nat} (I : Inv X pins σ H s) (mu : Mut (H x)) (he : e = x ∨ H e = some (.own x)) (k : ∀ b u, b ≠ e → s.heap.get? b = some u → h'.get? b = some u) (heo : ∃ u, h'.get? e = some u)
    (new : ObjOk X.prog X.w (upd H x o) h' x o) : Inv X pins σ (upd H x o) { s with heap := h', toks := t' } := I.un (Un.write mu he k heo) (I.hok.write mu he k heo new)
theorem Inv.weak {σ' : List (Option V)} (I : Inv X pins σ H s) (hl : σ'.length = σ.length) (w : ∀ (i : Nat) v, σ'[i]? = some (some v) → σ[i]? = some (some v)) : Inv X pins σ' H s :=
  ⟨I.ok, I.os, I.bare, I.base, let ⟨m, hn, hl'⟩ := I.loc; ⟨m, hn, fun i x v e1 e2 e3 => hl' i x v e1 (w i v e2) e3⟩, I.cell, I.free, I.freeC, I.pin, I.hok, hl.trans I.len⟩
theorem Inv.pins_of {pins' : List (Addr × Obj)} (I : Inv X pins σ H s) (h : ∀ p ∈ pins', s.heap.get? p.1 = some p.2 ∧ H p.1 = none ∧ p.1 ≠ X.env.locals ∧ p.1 ∉ X.fs ∧ ∀ v, p.2.data ≠ .cell v) : Inv X pins' σ H s :=
  ⟨I.ok, I.os, I.bare, I.base, I.loc, I.cell, I.free, I.freeC, fun p hp => (List.mem_append.mp hp).elim (fun z => I.pin p (List.mem_append_left _ z)) (h p), I.hok, I.len⟩

theorem nodup_ix {N : List Str} (hN : N.Nodup) {i j : Nat} {x : Str} (a : N[i]? = some x) (b : N[j]? = some x) : i = j := by
  obtain ⟨h1, e1⟩ := List.getElem?_eq_some_iff.mp a
  obtain ⟨h2, e2⟩ := List.getElem?_eq_some_iff.mp b
  exact (List.getElem_inj hN).mp (e1.trans e2.symm)

theorem store_ok2 {M : Model} {A : Around} {E : Value → Shared → Prop} {i : Nat} {x : Str} {v : V} {u : Value} {Q : Unit → Shared → Prop} (I : Inv X pins σ H s) (hN : X.N.Nodup) (hi : X.N[i]? = some x) (hx : Loc X.env.scope x) (r : RelV v u)
    (h : ∀ s', Inv X pins (σ.set i (some v)) H s' → (∃ a, Heap.SameBut a s.heap s'.heap ∧ (a = X.env.locals ∨ X.env.cells.lookup x = some a)) → Q () s') (hf : X.fn x = true ∨ X.env.scope.names.lookup x = some .local := by first | exact .inl rfl | exact .inr rfl | assumption) : wpAny M A (storeName X.env x u) Q E s := by
  obtain ⟨m, hn, hl⟩ := id I.loc
  have hcls : (X.env.scope.kind == .class || (X.env.scope.kind == .module && X.env.locals != X.env.globals)) = false := by rw [I.ok.kind]; rfl
  have hiσ : i < σ.length := by rw [I.len]; exact (List.getElem?_eq_some_iff.mp hi).1
  have cne := I.cne
  have tracked : ∀ {a : Addr} {h' : Heap}, (∃ o, s.heap.get? a = some o ∧ H a = none) → Heap.SameBut a s.heap h' → HOk X.prog X.w H h' := fun {a h'} ha hs b ob e => by
    obtain ⟨_, _, hfree⟩ := ha
    refine (I.hok b ob e).stay (fun c w' hc q => (hs.2 c ?_).trans q) (fun _ q => q) fun _ _ q => q
    rintro rfl
    rcases hc with rfl | hc
    · rw [hfree] at e; cases e
    · rw [hfree] at hc; cases hc
  rcases hx with hk | hk
  · refine wpAny_storeName_local hk hn (fun h' hn' hs => ?_) hcls
    obtain ⟨oL, _, _, hoL, _⟩ := id hn
    refine h _ ⟨I.ok, I.os, I.bare, ⟨fun b o e n hb hx => ?_, fun b o e n hb hx => ?_, I.base.free, fun b o e hx => ?_, I.base.tups, I.base.frzs, I.base.tbls⟩, ⟨_, hn', fun j y v' e1 e2 e3 => ?_⟩, fun y c e => ?_, I.free, I.freeC, fun p hp => ?_, tracked ⟨oL, hoL, I.free⟩ hs, by simpa using I.len⟩ ⟨_, hs, .inl rfl⟩
    · exact (hs.2 b (Nat.ne_of_lt (Nat.lt_of_lt_of_le (Heap.lt_size e) I.ok.above))).trans (I.base.keep b o e n hb hx)
    · obtain ⟨sl, e1⟩ := I.base.slot b o e n hb hx
      exact ⟨sl, (hs.2 b (Nat.ne_of_lt (Nat.lt_of_lt_of_le (Heap.lt_size e) I.ok.above))).trans e1⟩
    · obtain ⟨o', e1⟩ := I.base.there b o e hx
      exact ⟨o', (hs.2 b (Nat.ne_of_lt (Nat.lt_of_lt_of_le (Heap.lt_size e) I.ok.above))).trans e1⟩
    · by_cases hj : j = i
      · subst hj
        rw [hi] at e1; cases e1
        rw [List.getElem?_set_self hiσ] at e2
        cases e2
        exact ⟨u, r, .inl ⟨hk, by simp⟩⟩
      · rw [List.getElem?_set_ne (Ne.symm hj)] at e2
        obtain ⟨u', r', q⟩ := hl j y v' e1 e2 e3
        refine ⟨u', r', ?_⟩
        rcases q with ⟨k, e⟩ | ⟨k, c, e, z⟩
        · refine .inl ⟨k, ?_⟩
          have : y ≠ x := fun e => hj (nodup_ix hN e1 (e ▸ hi))
          simp [this, e]
        · exact .inr ⟨k, c, e, z.sameBut hs (cne y c e)⟩
    · obtain ⟨w', z⟩ := I.cell y c e
      exact ⟨w', z.sameBut hs (cne y c e)⟩
    · obtain ⟨e, n, ne, nf, d⟩ := I.pin p hp
      exact ⟨(hs.2 p.1 ne).trans e, n, ne, nf, d⟩
  · have hfn : X.fn x = true := by
      rcases hf with z | z
      · exact z
      · rw [z] at hk; cases hk
    obtain ⟨c, hc⟩ := I.ok.has x (.inl hk)
    obtain ⟨w', z⟩ := I.cell x c hc
    refine wpAny_storeName_cell I.ok.kind hk hc z (fun h' hc' hs => ?_)
    obtain ⟨oc, hoc, hocd⟩ := id z
    refine h { s with heap := h' } ⟨I.ok, I.os, I.bare, ⟨fun b o e n hb hx => ?_, fun b o e n hb hx => ?_, I.base.free, fun b o e hx => ?_, I.base.tups, I.base.frzs, I.base.tbls⟩, ⟨m, hn.sameBut hs (Ne.symm (cne x c hc)), fun j y v' e1 e2 e3 => ?_⟩, fun y c' e => ?_, I.free, I.freeC, fun p hp => ?_, tracked ⟨oc, hoc, I.freeC x c hc⟩ hs, by simpa using I.len⟩ ⟨c, hs, .inr hc⟩
    · exact (hs.2 b (Nat.ne_of_lt (Nat.lt_of_lt_of_le (Heap.lt_size e) (I.ok.cab x c hfn hc)))).trans (I.base.keep b o e n hb hx)
    · obtain ⟨sl, e1⟩ := I.base.slot b o e n hb hx
      exact ⟨sl, (hs.2 b (Nat.ne_of_lt (Nat.lt_of_lt_of_le (Heap.lt_size e) (I.ok.cab x c hfn hc)))).trans e1⟩
    · obtain ⟨o', e1⟩ := I.base.there b o e hx
      exact ⟨o', (hs.2 b (Nat.ne_of_lt (Nat.lt_of_lt_of_le (Heap.lt_size e) (I.ok.cab x c hfn hc)))).trans e1⟩
    · by_cases hj : j = i
      · subst hj
        rw [hi] at e1; cases e1
        rw [List.getElem?_set_self hiσ] at e2
        cases e2
        exact ⟨u, r, .inr ⟨.inl hk, c, hc, hc'⟩⟩
      · rw [List.getElem?_set_ne (Ne.symm hj)] at e2
        obtain ⟨u', r', q⟩ := hl j y v' e1 e2 e3
        refine ⟨u', r', ?_⟩
        rcases q with q | ⟨k, c', e, z'⟩
        · exact .inl q
        · refine .inr ⟨k, c', e, z'.sameBut hs ?_⟩
          rintro rfl
          exact hj (nodup_ix hN e1 (I.ok.inj _ _ _ e hc ▸ hi))
    · by_cases hcc : c' = c
      · subst hcc; exact ⟨_, hc'⟩
      · obtain ⟨w2, z2⟩ := I.cell y c' e
        exact ⟨w2, z2.sameBut hs hcc⟩
    · obtain ⟨e, n, ne, nf, d⟩ := I.pin p hp
      refine ⟨(hs.2 p.1 ?_).trans e, n, ne, nf, d⟩
      intro q
      rw [q, hoc] at e
      have q' : oc = p.2 := Option.some.inj e
      exact d w' (by rw [← q']; exact hocd)
theorem store_ok {M : Model} {A : Around} {E : Value → Shared → Prop} {i : Nat} {x : Str} {v : V} {u : Value} {Q : Unit → Shared → Prop} (I : Inv X pins σ H s) (hN : X.N.Nodup) (hi : X.N[i]? = some x) (hx : Loc X.env.scope x) (r : RelV v u)
    (h : ∀ s', Inv X pins (σ.set i (some v)) H s' → Q () s') (hf : X.fn x = true ∨ X.env.scope.names.lookup x = some .local := by first | exact .inl rfl | exact .inr rfl | assumption) : wpAny M A (storeName X.env x u) Q E s :=
  store_ok2 I hN hi hx r (fun s' I' _ => h s' I') hf
theorem Inv.call' {s' : Shared} {ch : List Addr} (I : Inv X pins σ H s) (ho : s'.os = s.os) (u : Un (frs X.stack) ch H H' s.heap s'.heap) (hok : HOk X.prog X.w H' s'.heap) (hg : AllBare s'.gens)
    (hch : ∀ b ∈ ch, (b ∈ X.ex ∨ X.s₀.heap.objs.size ≤ b) ∧ b ≠ X.env.locals ∧ (∀ x c, X.env.cells.lookup x = some c → c ≠ b) ∧ ∀ p ∈ X.pn ++ pins, p.1 ≠ b) : Inv X pins σ H' s' := by
  obtain ⟨h', g', d', t', o'⟩ := s'
  have e : o' = s.os := ho
  subst e
  exact I.call (g' := g') (t' := t') (d' := d') u hok hg hch
end

noncomputable abbrev XK := Value → Option Addr → Hp → Prop
noncomputable abbrev St := List (Option V)
noncomputable abbrev VK := V → Hp → Prop
noncomputable abbrev TE := St → Hp → VK → Prop
noncomputable abbrev TT := St → Hp → (Bool → Hp → Prop) → Prop
noncomputable abbrev TA := St → Hp → (List V → Hp → Prop) → Prop
structure Ends where
  nx : St → Hp → Prop
  rt : VK
  bk : St → Hp → Prop := fun _ _ => False
  ct : St → Hp → Prop := fun _ _ => False
noncomputable abbrev TS := Ends → St → Hp → Prop

noncomputable def EP (X : Cx) (pins : List (Addr × Obj)) (σ : St) (Q : VK) (u : Value) (s' : Shared) : Prop := ∃ v H', Inv X pins σ H' s' ∧ RelV v u ∧ Q v H'
noncomputable def TP (X : Cx) (pins : List (Addr × Obj)) (σ : St) (Q : Bool → Hp → Prop) (b : Bool) (s' : Shared) : Prop := ∃ H', Inv X pins σ H' s' ∧ Q b H'
noncomputable def AP (X : Cx) (pins : List (Addr × Obj)) (σ : St) (Q : List V → Hp → Prop) (us : List Value) (s' : Shared) : Prop := ∃ vs H', Inv X pins σ H' s' ∧ Vals vs us ∧ Q vs H'
noncomputable def SP (X : Cx) (pins : List (Addr × Obj)) (D : Ends) (f : Flow) (s' : Shared) : Prop :=
  match f with
  | .next => ∃ σ' H', Inv X pins σ' H' s' ∧ D.nx σ' H'
  | .brk => ∃ σ' H', Inv X pins σ' H' s' ∧ D.bk σ' H'
  | .cont => ∃ σ' H', Inv X pins σ' H' s' ∧ D.ct σ' H'
  | .ret u => ∃ v σ' H', Inv X pins σ' H' s' ∧ RelV v u ∧ D.rt v H'

noncomputable def PE (X : Cx) (e : Expr) (t : TE) : Prop :=
  ∀ (pins : List (Addr × Obj)) (s : Shared) (σ : St) (H : Hp) (Q : VK), Inv X pins σ H s → t σ H Q → wpAny (model X.prog X.w) X.A (eval e X.env) (EP X pins σ Q) X.xe s
noncomputable def PT (X : Cx) (e : Expr) (t : TT) : Prop :=
  ∀ (pins : List (Addr × Obj)) (s : Shared) (σ : St) (H : Hp) (Q : Bool → Hp → Prop), Inv X pins σ H s → t σ H Q → wpAny (model X.prog X.w) X.A (isTrue e X.env (eval e X.env)) (TP X pins σ Q) X.xe s
noncomputable def PW (X : Cx) (e : Expr) (t : TT) : Prop :=
  ∀ (whole : Sem Value) (pins : List (Addr × Obj)) (s : Shared) (σ : St) (H : Hp) (Q : Bool → Hp → Prop), Inv X pins σ H s → t σ H Q → wpAny (model X.prog X.w) X.A (isTrue e X.env whole) (TP X pins σ Q) X.xe s
theorem PW.pt {X : Cx} {e : Expr} {t : TT} (h : PW X e t) : PT X e t := h _
noncomputable def PA (X : Cx) (es : List Expr) (t : TA) : Prop :=
  ∀ (pos : Pos) (pins : List (Addr × Obj)) (s : Shared) (σ : St) (H : Hp) (Q : List V → Hp → Prop), Inv X pins σ H s → t σ H Q → wpAny (model X.prog X.w) X.A (spliced (backTo pos (starEach es X.env))) (AP X pins σ Q) X.xe s
noncomputable def PS (X : Cx) (st : Stmt) (t : TS) : Prop :=
  ∀ (pins : List (Addr × Obj)) (s : Shared) (σ : St) (H : Hp) (D : Ends), Inv X pins σ H s → t D σ H → wpAny (model X.prog X.w) X.A (exec st X.env) (SP X pins D) X.xe s
noncomputable def PSs (X : Cx) (st : List Stmt) (t : TS) : Prop :=
  ∀ (pins : List (Addr × Obj)) (s : Shared) (σ : St) (H : Hp) (D : Ends), Inv X pins σ H s → t D σ H → wpAny (model X.prog X.w) X.A (execs st X.env) (SP X pins D) X.xe s
theorem thn {α : Type} {t : Sem α} {Q Q' : α → Shared → Prop} {M : Model} {A : Around} {E : Value → Shared → Prop} {s : Shared} (h : wpAny M A t Q E s) (hQ : ∀ a s, Q a s → Q' a s) : wpAny M A t Q' E s := wpAny_mono h hQ fun _ _ x => x
end L2

namespace L2
open PySem PySem.Spec PyProof.Rows
section
variable {X : Cx}

noncomputable def tVar (i : Nat) : TE := fun σ H Q => ∃ v, σ[i]? = some (some v) ∧ Q v H
noncomputable def tC (v : V) : TE := fun _ H Q => Q v H
theorem pe_var {i : Nat} {x : Str} {pos : Pos} (hN : X.N[i]? = some x) (hv : Vis X.env.scope x) (hd : (x == ("__debug__" : Str)) = false := by decide) (hcd : (x == ("__classdict__" : Str)) = false := by decide) : PE X (.Name x pos) (tVar i) := by
  intro pins s σ H Q I h
  obtain ⟨v, e, h⟩ := h
  obtain ⟨m, hn, hl⟩ := I.loc
  obtain ⟨u, r, l⟩ := hl i x v hN e hv
  have fin : EP X pins σ Q u s := ⟨v, H, I, r, h⟩
  rcases l with ⟨hk, hm⟩ | ⟨hk, c, hc, hcell⟩
  · exact wpAny_Name (wpAny_loadName_local I.ok.kind hk hn hm fin) hd
  · rcases hk with hk | hk
    · exact wpAny_Name (wpAny_loadName_cell I.ok.kind hk hc hcell fin) hd
    · exact wpAny_Name (wpAny_loadName_free I.ok.kind hk hc hcell fin hcd) hd
theorem pe_int {i j pos} : PE X (.Constant (.int i) j pos) (tC (.int i)) := fun _ _ _ H _ I h => wpAny_Constant_int ⟨.int i, H, I.tok _, ⟨_, rfl⟩, h⟩
theorem pe_bl {b j pos} : PE X (.Constant (.bool b) j pos) (tC (.bl b)) := fun _ _ _ H _ I h => Constant_bool ⟨.bl b, H, I, rfl, h⟩
theorem pe_non {j pos} : PE X (.Constant .none j pos) (tC .non) := fun _ _ _ H _ I h => Constant_none ⟨.non, H, I, rfl, h⟩
theorem pe_str {x j pos} : PE X (.Constant (.str x) j pos) (tC (.str x)) := fun _ _ _ H _ I h => Calls.Constant_str ⟨.str x, H, I.tok _, ⟨_, rfl⟩, h⟩

noncomputable def Gl (X : Cx) (x : Str) : Prop := X.env.kindOf x = some .globalImplicit
theorem ld_glob {E : Value → Shared → Prop} {pins : List (Addr × Obj)} {s : Shared} {σ : St} {H : Hp} {x : Str} {u : Value} {pos : Pos} {Q : Value → Shared → Prop} (I : Inv X pins σ H s) (hg : Gl X x) (hm : X.mg x = some u) (h : Q u s)
    (hd : (x == ("__debug__" : Str)) = false := by decide) : wpAny (model X.prog X.w) X.A (eval (.Name x pos) X.env) Q E s :=
  Calls.Name_function_global I.ok.kind hg (Calls.loadGlobal_global (by rw [I.ok.glob]; exact I.mod.glob.keeps I.bk) hm h) hd
theorem ld_blt {E : Value → Shared → Prop} {pins : List (Addr × Obj)} {s : Shared} {σ : St} {H : Hp} {x : Str} {u : Value} {pos : Pos} {Q : Value → Shared → Prop} (I : Inv X pins σ H s) (hg : Gl X x) (hm : X.mg x = none) (hv : bootBuiltins x = some u) (h : Q u s)
    (hn : x ≠ "__name__" := by decide) (hd : (x == ("__debug__" : Str)) = false := by decide) : wpAny (model X.prog X.w) X.A (eval (.Name x pos) X.env) Q E s := by
  obtain ⟨mb, h1, h2⟩ := I.mod.blt
  exact Calls.Name_function_global I.ok.kind hg (Calls.loadGlobal_builtin (by rw [I.ok.glob]; exact I.mod.glob.keeps I.bk) hm (by rw [I.ok.blt]; exact h1.keeps I.bk) ((h2 x hn).trans hv) h) hd
theorem pe_glob {x : Str} {v : V} {u : Value} {pos : Pos} (hg : Gl X x) (hm : X.mg x = some u) (r : RelV v u) (hd : (x == ("__debug__" : Str)) = false := by decide) : PE X (.Name x pos) (tC v) :=
  fun _ _ _ H _ I h => ld_glob I hg hm ⟨v, H, I, r, h⟩ hd
variable {a b : Expr} {ta tb : TE} {pos : Pos}
noncomputable def PC (X : Cx) (op : CmpOp) (a b : Expr) (t : TE) : Prop :=
  ∀ (pins : List (Addr × Obj)) (s : Shared) (σ : St) (H : Hp) (Q : VK), Inv X pins σ H s → t σ H Q →
    wpAny (model X.prog X.w) X.A (eval a X.env) (fun v s₁ => wpAny (model X.prog X.w) X.A (eval b X.env) (fun u s₂ => wpAny (model X.prog X.w) X.A (compareOp op v u) (EP X pins σ Q) X.xe s₂) X.xe s₁) X.xe s
theorem nobehind (b : Expr) {op : CmpOp} (h : op ≠ .In) (h2 : op ≠ .NotIn) : behindInMarks op b = false := by
  have e1 : (op == CmpOp.In) = false := by cases op <;> first | rfl | exact absurd rfl h
  have e2 : (op == CmpOp.NotIn) = false := by cases op <;> first | rfl | exact absurd rfl h2
  cases b <;> simp [behindInMarks, e1, e2]
noncomputable def tB (t : TE) : TT := fun σ H Q => t σ H fun x H1 => ∃ c, x = .bl c ∧ Q c H1
theorem pt_cmp {op : CmpOp} {t : TE} (h : PC X op a b t) (h1 : behindInMarks op b = false := by first | exact nobehind _ (by decide) (by decide) | rfl) : PT X (.Compare a [op] [b] pos) (tB t) := by
  intro pins s σ H Q I hw
  refine wpAny_isTrue_Compare1 (thn (h pins s σ H _ I hw) fun v s1 h1 => thn h1 fun u s2 h2 => thn h2 fun c s3 ⟨x, H1, I1, r1, q1⟩ => ?_) h1
  obtain ⟨d, rfl, q⟩ := q1
  cases r1
  exact wpAny_truthy_bool ⟨H1, I1, q⟩
theorem pt_val {e : Expr} {t : TE} (h : PE X e t) (he : ∀ whole, isTrue e X.env whole = (do let v ← whole; standAt e.pos; holding [v] (truthy v)) := by intro _; rfl) : PT X e (tB t) := by
  intro pins s σ H Q I hw
  refine isTrue_plain (thn (h pins s σ H _ I hw) fun v s1 ⟨x, H1, I1, r1, q1⟩ => ?_) (he _)
  obtain ⟨d, rfl, q⟩ := q1
  cases r1
  exact wpAny_truthy_bool ⟨H1, I1, q⟩

variable {tA tB' : TT} {rest : List Expr}
noncomputable def tAnd (t u : TT) : TT := fun σ H Q => t σ H fun c H1 => if c = true then u σ H1 Q else Q false H1
noncomputable def tOr (t u : TT) : TT := fun σ H Q => t σ H fun c H1 => if c = true then Q true H1 else u σ H1 Q
noncomputable def tNot (t : TT) : TT := fun σ H Q => t σ H fun c H1 => Q (!c) H1
theorem pw_and1 (ha : PT X a tA) : PW X (.BoolOp .And [a] pos) tA := by
  intro wh pins s σ H Q I h
  refine isTrue_and (thn (ha pins s σ H Q I h) fun c s1 e => ?_)
  cases c with
  | true => exact isTrue_and_nil e
  | false => exact e
theorem pw_or1 (ha : PT X a tA) : PW X (.BoolOp .Or [a] pos) tA := by
  intro wh pins s σ H Q I h
  refine isTrue_or (thn (ha pins s σ H Q I h) fun c s1 e => ?_)
  cases c with
  | false => exact isTrue_or_nil e
  | true => exact e
theorem pw_and (ha : PT X a tA) (hb : PW X (.BoolOp .And (b :: rest) pos) tB') : PW X (.BoolOp .And (a :: b :: rest) pos) (tAnd tA tB') := by
  intro wh pins s σ H Q I h
  refine isTrue_and (thn (ha pins s σ H _ I h) fun c s1 ⟨H1, I1, q1⟩ => ?_)
  cases c with
  | true => exact hb wh pins s1 σ H1 Q I1 q1
  | false => exact ⟨H1, I1, q1⟩
theorem pw_or (ha : PT X a tA) (hb : PW X (.BoolOp .Or (b :: rest) pos) tB') : PW X (.BoolOp .Or (a :: b :: rest) pos) (tOr tA tB') := by
  intro wh pins s σ H Q I h
  refine isTrue_or (thn (ha pins s σ H _ I h) fun c s1 ⟨H1, I1, q1⟩ => ?_)
  cases c with
  | true => exact ⟨H1, I1, q1⟩
  | false => exact hb wh pins s1 σ H1 Q I1 q1
theorem pt_not (ha : PT X a tA) : PT X (.UnaryOp .Not a pos) (tNot tA) := by
  intro pins s σ H Q I h
  exact isTrue_not (ha pins s σ H (fun c H1 => Q (!c) H1) I h)
noncomputable def tNotV (ta : TE) : TE := fun σ H Q => ta σ H fun x H1 => ∃ c, x = .bl c ∧ Q (.bl (!c)) H1
theorem pe_not (ha : PE X a ta) : PE X (.UnaryOp .Not a pos) (tNotV ta) := by
  intro pins s σ H Q I h
  refine UnaryOp_ (thn (ha pins s σ H _ I h) fun v s1 ⟨x, H1, I1, r1, q1⟩ => ?_)
  obtain ⟨c, rfl, q1⟩ := q1
  cases r1
  exact not_of (wpAny_truthy_bool ⟨.bl (!c), H1, I1, rfl, q1⟩)
noncomputable def tIf (t : TT) (ta tb : TE) : TE := fun σ H Q => t σ H fun c H1 => if c = true then ta σ H1 Q else tb σ H1 Q
theorem pe_ifExp {c : Expr} (hc : PT X c tA) (ha : PE X a ta) (hb : PE X b tb) : PE X (.IfExp c a b pos) (tIf tA ta tb) := by
  intro pins s σ H Q I h
  refine wpAny_IfExp (thn (hc pins s σ H _ I h) fun d s1 ⟨H1, I1, q1⟩ => ?_)
  cases d with
  | true => exact ha pins s1 σ H1 Q I1 q1
  | false => exact hb pins s1 σ H1 Q I1 q1
end
end L2

namespace L2
open PySem PySem.Spec PyProof.Rows

noncomputable def SqL (K : PySem.W.Frag) (H : Hp) (a : Addr) (xs : List V) : Prop :=
  Rd H a (.lst xs) ∨
    ∃ (o : Obj) (its : Array Value) (n : Nat), K.lookup a = some o ∧ o.cls = .type "list" ∧ o.dict = none ∧ o.data = .seq its n ∧ its.size ≤ sizeLine ∧ Vals xs its.toList
noncomputable def SqT (K : PySem.W.Frag) (H : Hp) (a : Addr) (xs : List V) : Prop :=
  Rd H a (.tup xs) ∨
    ∃ (o : Obj) (its : Array Value) (n : Nat), K.lookup a = some o ∧ o.cls = .type "tuple" ∧ o.data = .seq its n ∧ its.size ≤ sizeLine ∧ Vals xs its.toList
noncomputable def absV : Value → Option V
  | .none => some .non
  | .bool b => some (.bl b)
  | .int i _ => some (.int i)
  | .str x _ => some (.str x)
  | .bytes b _ => some (.byt b)
  | .float b _ => some (.flt b)
  | .ref a => some (.ref a)
  | .type n => some (.ty n)
  | _ => none
theorem RelV.abs {x : V} {u : Value} (r : RelV x u) : absV u = some x := by
  cases x with
  | non => cases r; rfl
  | bl _ => cases r; rfl
  | int _ => obtain ⟨t, rfl⟩ := r; rfl
  | str _ => obtain ⟨t, rfl⟩ := r; rfl
  | byt _ => obtain ⟨t, rfl⟩ := r; rfl
  | flt _ => obtain ⟨t, rfl⟩ := r; rfl
  | ref _ => cases r; rfl
  | ty _ => cases r; rfl
theorem RelV.inj {x y : V} {u : Value} (r : RelV x u) (q : RelV y u) : x = y := Option.some.inj (r.abs.symm.trans q.abs)
theorem Vals.inj : ∀ {xs ys : List V} {us : List Value}, Vals xs us → Vals ys us → xs = ys
  | _, _, _, .nil, .nil => rfl
  | _, _, _, .cons r t, .cons r' t' => by rw [r.inj r', Vals.inj t t']
section
variable {X : Cx} {pins : List (Addr × Obj)} {σ : St} {H : Hp} {s : Shared} {a : Addr} {xs ys : List V}
theorem SqL.of {K : PySem.W.Frag} (h : H a = some (.lst xs)) : SqL K H a xs := .inl (.inl h)
theorem SqT.of {K : PySem.W.Frag} (h : H a = some (.tup xs)) : SqT K H a xs := .inl (.inl h)
theorem Inv.list (I : Inv X pins σ H s) (h : SqL X.K H a xs) : ∃ its : List Value, Vals xs its ∧ PlainL s.heap a its.toArray ∧ xs.length ≤ sizeLine := by
  rcases h with h | ⟨o, its, n, hk, hc, hd, hs, hz, r⟩
  · obtain ⟨z, its, n, r, e⟩ := h.ok I.hok
    exact ⟨its, r, ⟨_, n, e, rfl, rfl, rfl⟩, z⟩
  · refine ⟨its.toList, r, ⟨o, n, I.kIn a o hk, hc, hd, by simpa using hs⟩, ?_⟩
    have e := r.length
    simp only [Array.length_toList] at e
    omega
theorem Inv.tuple (I : Inv X pins σ H s) (h : SqT X.K H a xs) : ∃ its : List Value, Vals xs its ∧ IsTup s.heap a its.toArray ∧ xs.length ≤ sizeLine := by
  rcases h with h | ⟨o, its, n, hk, hc, hs, hz, r⟩
  · obtain ⟨z, its, r, p⟩ := h.ok I.hok
    exact ⟨its, r, p, z⟩
  · refine ⟨its.toList, r, ⟨o, I.kIn a o hk, hc, n, by simpa using hs⟩, ?_⟩
    have e := r.length
    simp only [Array.length_toList] at e
    omega
theorem Inv.list_inj (I : Inv X pins σ H s) (h : SqL X.K H a xs) (h' : SqL X.K H a ys) : xs = ys := by
  obtain ⟨its, r, ⟨o, n, e, _, _, d⟩, _⟩ := I.list h
  obtain ⟨its', r', ⟨o', n', e', _, _, d'⟩, _⟩ := I.list h'
  rw [e] at e'; cases e'
  rw [d] at d'
  injection d' with d1 _
  have : its = its' := by simpa using congrArg Array.toList d1
  subst this
  exact r.inj r'
theorem Inv.tuple_inj (I : Inv X pins σ H s) (h : SqT X.K H a xs) (h' : SqT X.K H a ys) : xs = ys := by
  obtain ⟨its, r, ⟨o, e, _, n, d⟩, _⟩ := I.tuple h
  obtain ⟨its', r', ⟨o', e', _, n', d'⟩, _⟩ := I.tuple h'
  rw [e] at e'; cases e'
  rw [d] at d'
  injection d' with d1 _
  have : its = its' := by simpa using congrArg Array.toList d1
  subst this
  exact r.inj r'
end

noncomputable abbrev Cx.wish (X : Cx) (E : Value → Shared → Prop) : Cx := { X with xe := E }
noncomputable abbrev Cx.nox (X : Cx) : Cx := X.wish fun _ _ => False
theorem Cx.Ok.wish {X : Cx} (ok : X.Ok) (E : Value → Shared → Prop) : (X.wish E).Ok :=
  ⟨ok.mod, ok.kind, ok.glob, ok.blt, ok.above, ok.inj, ok.has, ok.cab, ok.hd, ok.frames, ok.stk, ok.exf, ok.bs, ok.bsz, ok.noex, ok.exfs, ok.funs, ok.frf⟩
theorem Cx.Ok.unwish {X : Cx} {E : Value → Shared → Prop} (ok : (X.wish E).Ok) : X.Ok :=
  ⟨ok.mod, ok.kind, ok.glob, ok.blt, ok.above, ok.inj, ok.has, ok.cab, ok.hd, ok.frames, ok.stk, ok.exf, ok.bs, ok.bsz, ok.noex, ok.exfs, ok.funs, ok.frf⟩
section
variable {X : Cx} {pins : List (Addr × Obj)} {σ : St} {H : Hp} {s : Shared} {E : Value → Shared → Prop}
theorem Inv.wish (I : Inv X pins σ H s) (E : Value → Shared → Prop) : Inv (X.wish E) pins σ H s := ⟨I.ok.wish E, I.os, I.bare, I.base, I.loc, I.cell, I.free, I.freeC, I.pin, I.hok, I.len⟩
theorem Inv.unwish (I : Inv (X.wish E) pins σ H s) : Inv X pins σ H s := ⟨I.ok.unwish, I.os, I.bare, I.base, I.loc, I.cell, I.free, I.freeC, I.pin, I.hok, I.len⟩
theorem SP.unwish {D : Ends} {f : Flow} {s' : Shared} (h : SP (X.wish E) pins D f s') : SP X pins D f s' := by
  cases f with
  | next => obtain ⟨σ', H', I, q⟩ := h; exact ⟨σ', H', I.unwish, q⟩
  | brk => obtain ⟨σ', H', I, q⟩ := h; exact ⟨σ', H', I.unwish, q⟩
  | cont => obtain ⟨σ', H', I, q⟩ := h; exact ⟨σ', H', I.unwish, q⟩
  | ret u => obtain ⟨v, σ', H', I, r, q⟩ := h; exact ⟨v, σ', H', I.unwish, r, q⟩
theorem PE.nox {e : Expr} {t : TE} (h : PE X.nox e t) : PE X e t := fun pins s σ H Q I hw =>
  wpAny_mono (h pins s σ H Q (I.wish _) hw) (fun _ _ ⟨v, H', I', r, q⟩ => ⟨v, H', I'.unwish, r, q⟩) fun _ _ z => False.elim z
theorem PT.nox {e : Expr} {t : TT} (h : PT X.nox e t) : PT X e t := fun pins s σ H Q I hw =>
  wpAny_mono (h pins s σ H Q (I.wish _) hw) (fun _ _ ⟨H', I', q⟩ => ⟨H', I'.unwish, q⟩) fun _ _ z => False.elim z
theorem PSs.nox {st : List Stmt} {t : TS} (h : PSs X.nox st t) : PSs X st t := fun pins s σ H D I hw =>
  wpAny_mono (h pins s σ H D (I.wish _) hw) (fun _ _ q => q.unwish) fun _ _ z => False.elim z
end

section
variable {X : Cx} {st : Stmt} {rest : List Stmt} {t u : TS} {e : Expr} {te : TE} {pos : Pos}
noncomputable def tNext : TS := fun D σ H => D.nx σ H
noncomputable def tSeq (t u : TS) : TS := fun D σ H => t { D with nx := u D } σ H
theorem pss_nil : PSs X [] tNext := fun _ _ σ H _ I h => wpAny_execs_nil ⟨σ, H, I, h⟩
theorem pss_cons (h1 : PS X st t) (h2 : PSs X rest u) : PSs X (st :: rest) (tSeq t u) := by
  intro pins s σ H D I h
  refine wpAny_execs_cons (thn (h1 pins s σ H { D with nx := u D } I h) fun f s1 q => ?_)
  cases f with
  | next =>
    obtain ⟨σ', H', I', q⟩ := q
    exact h2 pins s1 σ' H' D I' q
  | ret v => exact q
  | brk => exact q
  | cont => exact q
theorem pss_one (h1 : PS X st t) : PSs X [st] t := by
  intro pins s σ H D I h
  refine wpAny_execs_cons (thn (h1 pins s σ H D I h) fun f s1 q => ?_)
  cases f with
  | next => exact wpAny_execs_nil q
  | ret v => exact q
  | brk => exact q
  | cont => exact q
theorem Inv.quiet {pins : List (Addr × Obj)} {σ : St} {H : Hp} {s : Shared} (I : Inv X pins σ H s) : interactive X.env = false := by simp [interactive, I.ok.kind]
noncomputable def tDrop (te : TE) : TS := fun D σ H => te σ H fun _ H1 => D.nx σ H1
theorem ps_expr (he : PE X e te) (hs : swapsWith e none pos.line X.env = pure false := by rfl) : PS X (.Expr e pos) (tDrop te) := by
  intro pins s σ H D I h
  exact wpAny_Expr_any (thn (he pins s σ H _ I h) fun v s1 ⟨x, H1, I1, r1, q1⟩ => ⟨σ, H1, I1, q1⟩) I.quiet hs
noncomputable def tRet (te : TE) : TS := fun D σ H => te σ H D.rt
theorem ps_ret (he : PE X e te) : PS X (.Return (some e) pos) (tRet te) := by
  intro pins s σ H D I h
  exact wpAny_Return_some (thn (he pins s σ H _ I h) fun v s1 ⟨x, H1, I1, r1, q1⟩ => ⟨x, σ, H1, I1, r1, q1⟩)
noncomputable def tIfS (c : TT) (t u : TS) : TS := fun D σ H => c σ H fun b H1 => if b = true then t D σ H1 else u D σ H1
theorem ps_if {c : Expr} {a b : List Stmt} {tc : TT} (hc : PT X c tc) (ha : PSs X a t) (hb : PSs X b u) : PS X (.If c a b pos) (tIfS tc t u) := by
  intro pins s σ H D I h
  refine wpAny_If (thn (hc pins s σ H _ I h) fun d s1 ⟨H1, I1, q1⟩ => ?_)
  cases d with
  | true => exact ha pins s1 σ H1 D I1 q1
  | false => exact hb pins s1 σ H1 D I1 q1
end

noncomputable abbrev TG := V → St → Hp → (St → Hp → Prop) → Prop
noncomputable abbrev TGs := List V → St → Hp → (St → Hp → Prop) → Prop
noncomputable def PG (X : Cx) (target : Expr) (t : TG) : Prop :=
  ∀ (pins : List (Addr × Obj)) (s : Shared) (σ : St) (H : Hp) (v : V) (u : Value) (Q : St → Hp → Prop), Inv X pins σ H s → RelV v u → t v σ H Q →
    wpAny (model X.prog X.w) X.A (assign target X.env u) (fun _ s' => ∃ σ' H', Inv X pins σ' H' s' ∧ Q σ' H') X.xe s
noncomputable def PGs (X : Cx) (ts : List Expr) (t : TGs) : Prop :=
  ∀ (pins : List (Addr × Obj)) (s : Shared) (σ : St) (H : Hp) (vs : List V) (us : List Value) (Q : St → Hp → Prop), Inv X pins σ H s → Vals vs us → t vs σ H Q →
    wpAny (model X.prog X.w) X.A (assignInOrder ((assignEach ts X.env).map (·.2)) us) (fun _ s' => ∃ σ' H', Inv X pins σ' H' s' ∧ Q σ' H') X.xe s
noncomputable abbrev TSet := V → V → V → Hp → (Hp → Prop) → Prop
noncomputable def PSet (X : Cx) (t : TSet) : Prop :=
  ∀ (pins : List (Addr × Obj)) (s : Shared) (σ : St) (H : Hp) (o i v : V) (ov iv u : Value) (Q : Hp → Prop), Inv X pins σ H s → RelV o ov → RelV i iv → RelV v u → t o i v H Q →
    wpAny (model X.prog X.w) X.A (setItem ov iv u) (fun _ s' => ∃ H', Inv X pins σ H' s' ∧ Q H') X.xe s
section
variable {X : Cx} {pos : Pos}
noncomputable def gName (i : Nat) : TG := fun v σ H Q => Q (σ.set i (some v)) H
theorem pg_name {i : Nat} {x : Str} (hN : X.N.Nodup) (hi : X.N[i]? = some x) (hx : Loc X.env.scope x) (hf : X.fn x = true ∨ X.env.scope.names.lookup x = some .local := by first | exact .inl rfl | exact .inr rfl | assumption) : PG X (.Name x pos) (gName i) := by
  intro pins s σ H v u Q I r h
  exact wpAny_assign_Name (store_ok I hN hi hx r (fun s' I' => ⟨_, H, I', h⟩) hf)
noncomputable def gNil : TGs := fun vs σ H Q => vs = [] ∧ Q σ H
noncomputable def gCons (t : TG) (u : TGs) : TGs := fun vs σ H Q => ∃ v r, vs = v :: r ∧ t v σ H fun σ' H' => u r σ' H' Q
theorem pgs_nil : PGs X [] gNil := by
  intro pins s σ H vs us Q I r h
  obtain ⟨e, h⟩ := h
  subst e
  cases r
  exact assignInOrder_nil ⟨σ, H, I, h⟩
theorem pgs_cons {e : Expr} {es : List Expr} {t : TG} {u : TGs} (h1 : PG X e t) (h2 : PGs X es u)
    (hs : (assignEach (e :: es) X.env).map (·.2) = assign e X.env :: (assignEach es X.env).map (·.2) := by rfl) : PGs X (e :: es) (gCons t u) := by
  intro pins s σ H vs us Q I r h
  obtain ⟨v, vr, e1, h⟩ := h
  subst e1
  cases r with
  | cons r rr =>
    rw [hs]
    refine assignInOrder_cons (thn (h1 pins s σ H _ _ _ I r h) fun _ s1 ⟨σ1, H1, I1, q1⟩ => ?_)
    exact h2 pins s1 σ1 H1 _ _ Q I1 rr q1
noncomputable def gTup (K : PySem.W.Frag) (n : Nat) (t : TGs) : TG := fun v σ H Q => ∃ a xs, v = .ref a ∧ SqT K H a xs ∧ xs.length = n ∧ t xs σ H Q
theorem pg_tup {es : List Expr} {k : Nat} {t : TGs} {n : Nat} (hc : X.calm = true) (h : PGs X es t)
    (hn : (assignEach es X.env).length = n := by rfl) (hst : (assignEach es X.env).findIdx? (·.1) = none := by rfl) : PG X (.Tuple es k pos) (gTup X.K n t) := by
  intro pins s σ H v u Q I r hw
  obtain ⟨a, xs, e1, hq, hl, hw⟩ := hw
  subst e1
  cases r
  obtain ⟨its, rv, ht, hz⟩ := I.tuple hq
  refine assign_Tuple_tuple (I.ok.hd hc) ht (by simp [hn, ← hl, rv.length]) hst fun h' hx => ?_
  have I1 : Inv X pins σ H { s with heap := h' } := I.kept (t' := s.toks) fun b o e => hx b o (Nat.ne_of_lt (Heap.lt_size e)) e
  exact h pins _ σ H xs _ Q I1 (by simpa using rv) hw
noncomputable def gSub (to ti : TE) (t : TSet) : TG := fun v σ H Q => to σ H fun o H1 => ti σ H1 fun i H2 => t o i v H2 fun H3 => Q σ H3
theorem pg_sub {o i : Expr} {to ti : TE} {t : TSet} (ho : PE X o to) (hi : PE X i ti) (hs : PSet X t)
    (ha : ∀ v, assign (.Subscript o i pos) X.env v = (do
      let ov ← holding [v] (eval o X.env)
      let iv ← holding [v, ov] (eval i X.env)
      standAt pos
      holding [v, ov, iv] (setItem ov iv v)
      release [v, ov, iv] []) := by intro _; rfl) : PG X (.Subscript o i pos) (gSub to ti t) := by
  intro pins s σ H v u Q I r h
  rw [ha]
  refine wpAny_bind (wpAny_holding (thn (ho pins s σ H _ I h) fun ov s1 ⟨x, H1, I1, r1, q1⟩ => ?_))
  refine wpAny_bind (wpAny_holding (thn (hi pins s1 σ H1 _ I1 q1) fun iv s2 ⟨y, H2, I2, r2, q2⟩ => ?_))
  refine wpAny_bind (wpAny_standAt (wpAny_bind (wpAny_holding (thn (hs pins s2 σ H2 x y v ov iv u _ I2 r1 r2 r q2) fun _ s3 ⟨H3, I3, q3⟩ => ?_))))
  exact wpAny_release ⟨σ, H3, I3, q3⟩
noncomputable def tAsg (te : TE) (g : TG) : TS := fun D σ H => te σ H fun x H1 => g x σ H1 D.nx
theorem ps_asg {tg e : Expr} {te : TE} {g : TG} (he : PE X e te) (hg : PG X tg g) (hs : swapsWithSole [tg] e pos.line X.env = pure false := by rfl) (hw : swappedStores [tg] e X.env = pure none := by rfl)
    (h1 : (assignEach [tg] X.env).map (·.2) = [assign tg X.env] := by rfl) : PS X (.Assign [tg] e pos) (tAsg te g) := by
  intro pins s σ H D I h
  refine wpAny_Assign_stores (thn (he pins s σ H _ I h) fun v s1 ⟨x, H1, I1, r1, q1⟩ => ?_) hs hw
  rw [h1]
  exact thn (hg pins s1 σ H1 x v _ I1 r1 q1) fun _ s2 q => q
theorem ps_set {i : Nat} {x : Str} {e : Expr} {te : TE} {pos' : Pos} (hN : X.N.Nodup) (hi : X.N[i]? = some x) (hx : Loc X.env.scope x) (he : PE X e te) (hs : swapsWith e (some (.Name x pos')) pos.line X.env = pure false := by rfl) (hf : X.fn x = true ∨ X.env.scope.names.lookup x = some .local := by first | exact .inl rfl | exact .inr rfl | assumption) :
    PS X (.Assign [.Name x pos'] e pos) (tAsg te (gName i)) := by
  intro pins s σ H D I h
  refine wpAny_Assign_Name (thn (he pins s σ H _ I h) fun v s1 ⟨y, H1, I1, r1, q1⟩ => ?_) hs
  exact store_ok I1 hN hi hx r1 (fun s2 I2 => ⟨_, H1, I2, q1⟩) hf
end

section
variable {X : Cx} {pos : Pos}
end

structure It where
  go : Nat → Hp → Prop
  yld : Nat → Hp → V → Hp → Prop
  stop : Nat → Hp → Prop
noncomputable def FpOk (X : Cx) (pins : List (Addr × Obj)) (H : Hp) (b : Addr) : Prop :=
  H b = none ∧ b ≠ X.env.locals ∧ b ∉ X.fs ∧ (b ∈ X.ex ∨ X.s₀.heap.objs.size ≤ b) ∧ (∀ x c, X.env.cells.lookup x = some c → c ≠ b) ∧ ∀ p ∈ X.pn ++ pins, p.1 ≠ b
theorem Inv.fpOk {X : Cx} {pins : List (Addr × Obj)} {σ : St} {H H' : Hp} {s : Shared} {b : Addr} (I : Inv X pins σ H s) (hb : s.heap.objs.size ≤ b) (hn : H' b = none) : FpOk X pins H' b := by
  refine ⟨hn, Nat.ne_of_gt (Nat.lt_of_lt_of_le I.lt hb), I.nofs hb, .inr (Nat.le_trans I.sz hb), fun x c e z => ?_, fun p hp z => ?_⟩
  · obtain ⟨v, q⟩ := I.cell x c e
    exact absurd (Nat.lt_of_lt_of_le q.lt (by rw [z]; exact hb)) (Nat.lt_irrefl _)
  · exact absurd (Nat.lt_of_lt_of_le (Heap.lt_size (I.pin p hp).1) (by rw [z]; exact hb)) (Nat.lt_irrefl _)
structure Turn (P : Program) (w : World) (K : PySem.W.Frag) (tg : Expr) (J : It) (fp : List Addr) (it : Addr) (tn : Nat → Heap → Prop) : Prop where
  mem : it ∈ fp
  obj : ∀ i h, tn i h → ∀ b ∈ fp, ∃ o, h.get? b = some o ∧ ∀ v, o.data ≠ .cell v
  keep : ∀ i h h', tn i h → (∀ b ∈ fp, ∀ o, h.get? b = some o → h'.get? b = some o) → tn i h'
  item : ∀ (X : Cx), X.prog = P → X.w = w → X.K = K → X.calm = true → ∀ (i : Nat) (pins : List (Addr × Obj)) (s : Shared) (σ : St) (H : Hp) (E : Value → Shared → Prop), Inv X pins σ H s → (∀ b ∈ fp, FpOk X pins H b) → tn i s.heap → J.go i H →
    wpAny (model P w) X.A (pyNext (.ref it)) (fun r s1 => ∃ u, r = some u ∧
      wpAny (model P w) X.A (letOwnedTupleGo tg (.ref it) u) (fun _ s2 => ∃ x H', Inv X pins σ H' s2 ∧ RelV x u ∧ J.yld i H x H' ∧ tn (i + 1) s2.heap ∧ ∀ b ∈ fp, H' b = none) E s1) E s
  done : ∀ (X : Cx), X.prog = P → X.w = w → X.K = K → X.calm = true → ∀ (i : Nat) (pins : List (Addr × Obj)) (s : Shared) (σ : St) (H : Hp) (E : Value → Shared → Prop), Inv X pins σ H s → (∀ b ∈ fp, FpOk X pins H b) → tn i s.heap → J.stop i H →
    wpAny (model P w) X.A (pyNext (.ref it)) (fun r s1 => r = none ∧ Inv X pins σ H s1) E s
  self : ∀ (A : Around) (i : Nat) (s : Shared) (Q : Value → Shared → Prop) (E : Value → Shared → Prop), tn i s.heap → Q (.ref it) s → wpAny (model P w) A (pyIter (.ref it)) Q E s
noncomputable abbrev TI := St → Hp → (It → Hp → Prop) → Prop
noncomputable def PIE (X : Cx) (pins : List (Addr × Obj)) (σ : St) (tg : Expr) (R : It → Hp → Prop) (itv : Value) (s2 : Shared) : Prop :=
  ∃ (it : Addr) (fp : List Addr) (tn : Nat → Heap → Prop) (J : It) (H' : Hp), itv = .ref it ∧ Inv X pins σ H' s2 ∧ Turn X.prog X.w X.K tg J fp it tn ∧ tn 0 s2.heap ∧ (∀ b ∈ fp, FpOk X pins H' b) ∧ R J H'
noncomputable def PI (X : Cx) (tg iter : Expr) (wi : TI) : Prop :=
  ∀ (pins : List (Addr × Obj)) (s : Shared) (σ : St) (H : Hp) (R : It → Hp → Prop), Inv X pins σ H s → wi σ H R →
    wpAny (model X.prog X.w) X.A (eval iter X.env) (fun v s1 => wpAny (model X.prog X.w) X.A (pyIter v) (PIE X pins σ tg R) X.xe s1) X.xe s

theorem go_of {M : Model} {A : Around} {E : Value → Shared → Prop} {s : Shared} {tg : Expr} {it : Addr} {u : Value} {o : Obj} {n : String} {vs : Array Value} {Q : Unit → Shared → Prop} (ho : s.heap.get? it = some o) (hc : o.cls = .type n) (hd : o.data = .fields vs)
    (hn : ["enumerate", "zip", "dict_itemiterator", "dict_reverseitemiterator", "odict_iterator", "itertools.zip_longest", "itertools.pairwise"].contains n = false) (hQ : Q () s) : wpAny M A (letOwnedTupleGo tg (.ref it) u) Q E s := by
  unfold letOwnedTupleGo
  cases tg <;> first
    | exact wpAny_pure hQ
    | (cases u <;> first
        | exact wpAny_pure hQ
        | (refine wpAny_bind (wpAny_load ho ?_)
           rw [hc, hd]
           show wpAny M A (if (["enumerate", "zip", "dict_itemiterator", "dict_reverseitemiterator", "odict_iterator", "itertools.zip_longest", "itertools.pairwise"].contains n && vs[0]? == some (rawInt _)) = true then _ else _) Q E s
           rw [if_neg (by intro h; rw [hn, Bool.false_and] at h; cases h)]
           exact wpAny_pure hQ))

noncomputable def Itl (K : PySem.W.Frag) (a : Addr) : It :=
  ⟨fun i H => ∃ xs x, SqL K H a xs ∧ xs[i]? = some x, fun i H x H' => H' = H ∧ ∀ xs, SqL K H a xs → xs[i]? = some x, fun i H => ∃ xs, SqL K H a xs ∧ xs.length ≤ i⟩
noncomputable def Itt (K : PySem.W.Frag) (a : Addr) : It :=
  ⟨fun i H => ∃ xs x, SqT K H a xs ∧ xs[i]? = some x, fun i H x H' => H' = H ∧ ∀ xs, SqT K H a xs → xs[i]? = some x, fun i H => ∃ xs, SqT K H a xs ∧ xs.length ≤ i⟩
noncomputable def Itr (lo : Int) (n : Nat) : It := ⟨fun i _ => i < n, fun i H x H' => H' = H ∧ x = .int (lo + i), fun i _ => n ≤ i⟩
theorem turn_list {P : Program} {w : World} {K : PySem.W.Frag} {tg : Expr} (a it : Addr) : Turn P w K tg (Itl K a) [it] it (fun i h => h.IsListIter it a i) where
  mem := by simp
  obj := fun i h st b hb => by
    have e : b = it := by simpa using hb
    subst e
    obtain ⟨o, e, c, d⟩ := st
    exact ⟨o, e, fun v z => by rw [d] at z; cases z⟩
  keep := fun i h h' st k => st.at fun o e => k it (by simp) o e
  item := by
    intro X hP hw hK hc i pins s σ H E I hf st hg
    subst hP hw hK
    obtain ⟨xs, x, hq, hx⟩ := hg
    obtain ⟨its, rv, p, hz⟩ := I.list hq
    obtain ⟨u, hu, ru⟩ := rv.get hx
    obtain ⟨f0, f1, f2, f3, f4, f5⟩ := hf it (by simp)
    refine wpAny_pyNext_list_item st p.isList (x := u) (by simpa using hu) fun h' st' sb => ?_
    have I1 : Inv X pins σ H { s with heap := h' } := I.turned (t' := s.toks) (fun b o hb e => (sb.2 b hb).trans e) f0 f1 f3 f4 f5
    obtain ⟨o, e, c, d⟩ := id st'
    exact ⟨u, rfl, go_of (s := { s with heap := h' }) e c d (by decide) ⟨x, H, I1, ru, ⟨rfl, fun ys hy => by rw [I.list_inj hy hq]; exact hx⟩, st', fun b hb => (hf b hb).1⟩⟩
  done := by
    intro X hP hw hK hc i pins s σ H E I hf st hg
    subst hP hw hK
    obtain ⟨xs, hq, hx⟩ := hg
    obtain ⟨its, rv, p, hz⟩ := I.list hq
    obtain ⟨f0, f1, f2, f3, f4, f5⟩ := hf it (by simp)
    have hl := rv.length
    exact wpAny_pyNext_list_end (I.ok.hd hc) st p.isList (by simp; omega) fun h' eb => ⟨rfl, I.turned (t' := s.toks) (fun b o hb e => eb b o hb e) f0 f1 f3 f4 f5⟩
  self := fun _ _ _ _ _ st h => wpAny_pyIter_listiter st h
theorem turn_tuple {P : Program} {w : World} {K : PySem.W.Frag} {tg : Expr} (a it : Addr) : Turn P w K tg (Itt K a) [it] it (fun i h => h.IsTupleIter it a i) where
  mem := by simp
  obj := fun i h st b hb => by
    have e : b = it := by simpa using hb
    subst e
    obtain ⟨o, e, c, d⟩ := st
    exact ⟨o, e, fun v z => by rw [d] at z; cases z⟩
  keep := fun i h h' st k => st.at fun o e => k it (by simp) o e
  item := by
    intro X hP hw hK hc i pins s σ H E I hf st hg
    subst hP hw hK
    obtain ⟨xs, x, hq, hx⟩ := hg
    obtain ⟨its, rv, p, hz⟩ := I.tuple hq
    obtain ⟨u, hu, ru⟩ := rv.get hx
    obtain ⟨f0, f1, f2, f3, f4, f5⟩ := hf it (by simp)
    refine wpAny_pyNext_tuple_item st (show s.heap.IsTuple a its.toArray from p) (x := u) (by simpa using hu) fun h' st' sb => ?_
    have I1 : Inv X pins σ H { s with heap := h' } := I.turned (t' := s.toks) (fun b o hb e => (sb.2 b hb).trans e) f0 f1 f3 f4 f5
    obtain ⟨o, e, c, d⟩ := id st'
    exact ⟨u, rfl, go_of (s := { s with heap := h' }) e c d (by decide) ⟨x, H, I1, ru, ⟨rfl, fun ys hy => by rw [I.tuple_inj hy hq]; exact hx⟩, st', fun b hb => (hf b hb).1⟩⟩
  done := by
    intro X hP hw hK hc i pins s σ H E I hf st hg
    subst hP hw hK
    obtain ⟨xs, hq, hx⟩ := hg
    obtain ⟨its, rv, p, hz⟩ := I.tuple hq
    obtain ⟨f0, f1, f2, f3, f4, f5⟩ := hf it (by simp)
    have hl := rv.length
    exact wpAny_pyNext_tuple_end (I.ok.hd hc) st (show s.heap.IsTuple a its.toArray from p) (by simp; omega) fun h' eb => ⟨rfl, I.turned (t' := s.toks) (fun b o hb e => eb b o hb e) f0 f1 f3 f4 f5⟩
  self := fun _ _ _ _ _ st h => wpAny_pyIter_tupleiter st h
theorem turn_range {P : Program} {w : World} {K : PySem.W.Frag} {tg : Expr} (it : Addr) (lo : Int) (n : Nat) : Turn P w K tg (Itr lo n) [it] it (fun i h => IsRangeIter h it (lo + (i : Nat) * 1) ((n : Int) - (i : Nat)) 1) where
  mem := by simp
  obj := fun i h st b hb => by
    have e : b = it := by simpa using hb
    subst e
    exact ⟨_, st, fun v z => by
      have z' : Data.fields _ = Data.cell v := z
      cases z'⟩
  keep := fun i h h' st k => k it (by simp) _ st
  item := by
    intro X hP hw hK hc i pins s σ H E I hf st hg
    subst hP hw hK
    obtain ⟨f0, f1, f2, f3, f4, f5⟩ := hf it (by simp)
    have W := Walks.range (prog := X.prog) (w := X.w) (I.ok.hd hc) it lo 1 n
    refine W.item i s _ _ hg st fun v h' tk hv st' kk => ?_
    obtain ⟨t, rfl⟩ := hv
    have I1 : Inv X pins σ H { s with heap := h', toks := tk } := I.turned (fun b o hb e => kk b o (by simpa using hb) e) f0 f1 f3 f4 f5
    refine ⟨_, rfl, go_of (s := { s with heap := h', toks := tk }) (n := "range_iterator") st' rfl rfl (by decide) ⟨.int (lo + i), H, I1, ⟨t, ?_⟩, ⟨rfl, rfl⟩, st', fun b hb => (hf b hb).1⟩⟩
    rw [Int.mul_one]
  done := by
    intro X hP hw hK hc i pins s σ H E I hf st hg
    subst hP hw hK
    obtain ⟨f0, f1, f2, f3, f4, f5⟩ := hf it (by simp)
    exact wpAny_pyNext_range_end (I.ok.hd hc) st (by have : n ≤ i := hg; omega) fun h' eb => ⟨rfl, I.turned (t' := s.toks) (fun b o hb e => eb b o hb e) f0 f1 f3 f4 f5⟩
  self := fun _ _ _ _ _ st h => wpAny_pyIter_rangeiter st h
end L2

namespace L2
open PySem PySem.Spec PyProof.Rows
section
variable {X : Cx} {tg : Expr}
noncomputable def iList (K : PySem.W.Frag) (tl : TE) : TI := fun σ H R => tl σ H fun x H1 => ∃ a, x = .ref a ∧ (∃ xs, SqL K H1 a xs) ∧ R (Itl K a) H1
noncomputable def iTup (K : PySem.W.Frag) (tl : TE) : TI := fun σ H R => tl σ H fun x H1 => ∃ a, x = .ref a ∧ (∃ xs, SqT K H1 a xs) ∧ R (Itt K a) H1
theorem pi_list {l : Expr} {tl : TE} (hl : PE X l tl) : PI X tg l (iList X.K tl) := by
  intro pins s σ H R I h
  refine thn (hl pins s σ H _ I h) fun v s1 ⟨x, H1, I1, r1, q1⟩ => ?_
  obtain ⟨a, e, ⟨xs, hq⟩, q⟩ := q1
  subst e
  cases r1
  obtain ⟨its, rv, p, hz⟩ := I1.list hq
  refine wpAny_pyIter_list p.isList ?_
  refine ⟨s1.heap.objs.size, [s1.heap.objs.size], _, _, H1, rfl, I1.kept (t' := s1.toks) fun b o e => Heap.get?_push_of_some _ e, turn_list a _, ⟨_, Heap.get?_push_size _ rfl, rfl, rfl⟩, fun b hb => ?_, q⟩
  have e : b = s1.heap.objs.size := by simpa using hb
  subst e
  exact I1.fpOk (Nat.le_refl _) (I1.hok.fresh (Nat.le_refl _))
theorem pi_tup {l : Expr} {tl : TE} (hl : PE X l tl) : PI X tg l (iTup X.K tl) := by
  intro pins s σ H R I h
  refine thn (hl pins s σ H _ I h) fun v s1 ⟨x, H1, I1, r1, q1⟩ => ?_
  obtain ⟨a, e, ⟨xs, hq⟩, q⟩ := q1
  subst e
  cases r1
  obtain ⟨its, rv, p, hz⟩ := I1.tuple hq
  refine wpAny_pyIter_tuple (show s1.heap.IsTuple a its.toArray from p) ?_
  refine ⟨s1.heap.objs.size, [s1.heap.objs.size], _, _, H1, rfl, I1.kept (t' := s1.toks) fun b o e => Heap.get?_push_of_some _ e, turn_tuple a _, ⟨_, Heap.get?_push_size _ rfl, rfl, rfl⟩, fun b hb => ?_, q⟩
  have e : b = s1.heap.objs.size := by simpa using hb
  subst e
  exact I1.fpOk (Nat.le_refl _) (I1.hok.fresh (Nat.le_refl _))
theorem range_it {pins : List (Addr × Obj)} {σ : St} {H : Hp} {s : Shared} {R : It → Hp → Prop} {E : Value → Shared → Prop} {lo hi : Int} {t u v : Tok} {tk : Nat} (I : Inv X pins σ H s) (h1 : -(2 ^ 62) ≤ lo) (h2 : lo < 2 ^ 62) (h3 : -(2 ^ 62) ≤ hi) (h4 : hi < 2 ^ 62)
    (q : R (Itr lo (hi - lo).toNat) H) : wpAny (model X.prog X.w) X.A (pyIter (.ref s.heap.objs.size)) (PIE X pins σ tg R) E { s with heap := s.heap.push { cls := .type "range", data := .fields #[.int lo t, .int hi u, .int 1 v] }, toks := tk } := by
  refine wpAny_pyIter_range (IsRange.new ..) (small_one h1 h2 h3 h4) ?_
  have I1 : Inv X pins σ H { s with heap := s.heap.push { cls := .type "range", data := .fields #[.int lo t, .int hi u, .int 1 v] }, toks := tk } := I.kept fun b o e => Heap.get?_push_of_some _ e
  refine ⟨(s.heap.push { cls := .type "range", data := .fields #[.int lo t, .int hi u, .int 1 v] }).objs.size, [(s.heap.push { cls := .type "range", data := .fields #[.int lo t, .int hi u, .int 1 v] }).objs.size], _, _, H, rfl,
    I1.kept (t' := tk) fun b o e => Heap.get?_push_of_some _ e, turn_range _ lo (hi - lo).toNat, ?_, fun b hb => ?_, q⟩
  · have e1 : lo + ((0 : Nat) : Int) * 1 = lo := by simp
    have e2 : (((hi - lo).toNat : Nat) : Int) - ((0 : Nat) : Int) = Builtin.Range.rangeSize lo hi 1 := by rw [rangeSize_one]; split <;> omega
    show IsRangeIter _ _ (lo + ((0 : Nat) : Int) * 1) ((((hi - lo).toNat : Nat) : Int) - ((0 : Nat) : Int)) 1
    rw [e1, e2]
    exact Heap.get?_push_size _ rfl
  · have e : b = (s.heap.push { cls := .type "range", data := .fields #[.int lo t, .int hi u, .int 1 v] }).objs.size := by simpa using hb
    subst e
    exact I1.fpOk (Nat.le_refl _) (I1.hok.fresh (Nat.le_refl _))
noncomputable def iRng1 (ta : TA) : TI := fun σ H R => ta σ H fun vs H1 => ∃ j : Int, vs = [.int j] ∧ -(2 ^ 62) ≤ j ∧ j < 2 ^ 62 ∧ R (Itr 0 j.toNat) H1
theorem pi_range1 {a : Expr} {ta : TA} {p pos : Pos} (hg : Gl X "range") (hm : X.mg "range" = none) (ha : PA X [a] ta) (hs : starEach [a] X.env = [(false, eval a X.env)] := by rfl) : PI X tg (.Call (.Name "range" p) [a] [] pos) (iRng1 ta) := by
  intro pins s σ H R I h
  refine Call_ (ld_blt I hg hm boot_range (PyProof.Rows.callWith_type1 (thn (ha pos pins s σ H _ I h) fun us s1 ⟨vs, H1, I1, r1, q1⟩ => ?_) hs rfl))
  obtain ⟨j, e, q1, q2, q⟩ := q1
  subst e
  cases r1 with
  | cons r rr =>
    cases rr
    obtain ⟨t, rfl⟩ := r
    exact call_range_1 (range_it I1 (by omega) (by omega) q1 q2 (by simpa using q))
noncomputable def tFor (wi : TI) (g : TG) (tb : TS) : TS := fun D σ H => wi σ H fun J H1 => ∃ W : Nat → Nat → St → Hp → Prop, (∃ m, W 0 m σ H1) ∧ ∀ i m σ H, W i m σ H →
  (J.stop i H ∧ D.nx σ H) ∨ (J.go i H ∧ ∃ N : St → Hp → Prop, (∀ σ' H', N σ' H' → ∃ m', m' < m ∧ W (i + 1) m' σ' H') ∧ ∀ x H', J.yld i H x H' → g x σ H' fun σ2 H2 => tb { D with nx := N, ct := N, bk := D.nx } σ2 H2)
noncomputable def pinsAt (fp : List Addr) (h : Heap) : List (Addr × Obj) := fp.filterMap fun b => (h.get? b).map fun o => (b, o)
theorem mem_pinsAt {fp : List Addr} {h : Heap} {b : Addr} {o : Obj} (hb : b ∈ fp) (e : h.get? b = some o) : (b, o) ∈ pinsAt fp h := List.mem_filterMap.mpr ⟨b, hb, by rw [e]; rfl⟩
theorem of_pinsAt {fp : List Addr} {h : Heap} {p : Addr × Obj} (hp : p ∈ pinsAt fp h) : p.1 ∈ fp ∧ h.get? p.1 = some p.2 := by
  obtain ⟨b, hb, e⟩ := List.mem_filterMap.mp hp
  cases q : h.get? b with
  | none => rw [q] at e; cases e
  | some o =>
    rw [q] at e
    have e' : (b, o) = p := Option.some.inj e
    subst e'
    exact ⟨hb, q⟩
theorem Inv.pinned {pins : List (Addr × Obj)} {σ : St} {H : Hp} {s : Shared} {fp : List Addr} (I : Inv X pins σ H s) (hf : ∀ b ∈ fp, FpOk X pins H b) (ho : ∀ b ∈ fp, ∃ o, s.heap.get? b = some o ∧ ∀ v, o.data ≠ .cell v) : Inv X (pins ++ pinsAt fp s.heap) σ H s :=
  I.pins_of fun p hp => (List.mem_append.mp hp).elim (fun z => I.pin p (List.mem_append_right _ z)) fun z => by
    obtain ⟨hb, e⟩ := of_pinsAt z
    obtain ⟨f0, f1, f2, _⟩ := hf p.1 hb
    obtain ⟨o, e', d⟩ := ho p.1 hb
    rw [e] at e'; cases e'
    exact ⟨e, f0, f1, f2, d⟩
theorem Inv.unpinned {pins pl : List (Addr × Obj)} {σ : St} {H : Hp} {s : Shared} (I : Inv X (pins ++ pl) σ H s) : Inv X pins σ H s := I.pins_of fun p hp => I.pin p (List.mem_append_right _ (List.mem_append_left _ hp))
theorem ps_for {iter : Expr} {body : List Stmt} {wi : TI} {g : TG} {tb : TS} {pos : Pos} (hp : PassesOwn (model X.prog X.w) X.A X.env X.xe) (hc : X.calm = true) (hi : PI X tg iter wi) (hg : PG X tg g) (hb : PSs X body tb)
    (hs : ∀ x, foldedSetIterable iter X.env x = pure x := by intro _; rfl) : PS X (.For tg iter body [] pos) (tFor wi g tb) := by
  intro pins s σ H D I h
  refine wpAny_For (thn (hi pins s σ H _ I h) fun v s1 h1 => thn h1 fun itv s2 h2 => ?_) hs
  obtain ⟨it, fp, tn, J, H2, e, I2, T, st2, f2, W, ⟨m0, w0⟩, turn⟩ := h2
  subst e
  have stat : ∀ {H' : Hp}, (∀ b ∈ fp, H' b = none) → ∀ b ∈ fp, FpOk X pins H' b := fun hn b hb => ⟨hn b hb, (f2 b hb).2⟩
  refine codeAny_forLoop_any (fun n s' => ∃ i σ' H', Inv X pins σ' H' s' ∧ tn i s'.heap ∧ (∀ b ∈ fp, H' b = none) ∧ W i n σ' H') ?_ m0 ⟨0, σ, H2, I2, st2, fun b hb => (f2 b hb).1, w0⟩
  rintro n s3 ⟨i, σ3, H3, I3, st3, fr3, w3⟩
  rcases turn i n σ3 H3 w3 with ⟨stop, qn⟩ | ⟨go, N, hN, step⟩
  · refine wpAny_passesOwn hp (thn (T.done X rfl rfl rfl hc i pins s3 σ3 H3 X.xe I3 (stat fr3) st3 stop) fun r s4 ⟨hr, I4⟩ => ?_)
    subst hr
    exact wpAny_execs_nil ⟨σ3, H3, I4, qn⟩
  · refine wpAny_passesOwn hp (thn (T.item X rfl rfl rfl hc i pins s3 σ3 H3 X.xe I3 (stat fr3) st3 go) fun r s4 ⟨u, hr, h4⟩ => ?_)
    subst hr
    refine wpAny_passesOwn hp (thn h4 fun _ s5 ⟨x, H5, I5, r5, y5, st5, fr5⟩ => ?_)
    have I5' := I5.pinned (stat fr5) (T.obj _ _ st5)
    refine wpAny_passesOwn hp (thn (hg _ s5 σ3 H5 x u _ I5' r5 (step x H5 y5)) fun _ s6 ⟨σ6, H6, I6, q6⟩ => ?_)
    refine wpAny_passesOwn hp (thn (hb _ s6 σ6 H6 _ I6 q6) fun f s7 q7 => ?_)
    have again : ∀ {σ7 : St} {H7 : Hp}, Inv X (pins ++ pinsAt fp s5.heap) σ7 H7 s7 → N σ7 H7 → ∃ m, m < n ∧ ∃ i σ' H', Inv X pins σ' H' s7 ∧ tn i s7.heap ∧ (∀ b ∈ fp, H' b = none) ∧ W i m σ' H' := fun {σ7 H7} I7 n7 => by
      obtain ⟨m', hm, w7⟩ := hN σ7 H7 n7
      refine ⟨m', hm, i + 1, σ7, H7, I7.unpinned, T.keep _ _ _ st5 fun b hb o e => (I7.pin (b, o) (List.mem_append_right _ (List.mem_append_right _ (mem_pinsAt hb e)))).1, fun b hb => ?_, w7⟩
      obtain ⟨o, e, d⟩ := T.obj _ _ st5 b hb
      exact (I7.pin (b, o) (List.mem_append_right _ (List.mem_append_right _ (mem_pinsAt hb e)))).2.1
    cases f with
    | next => obtain ⟨σ7, H7, I7, n7⟩ := q7; exact again I7 n7
    | cont => obtain ⟨σ7, H7, I7, n7⟩ := q7; exact again I7 n7
    | brk => obtain ⟨σ7, H7, I7, q7⟩ := q7; exact ⟨σ7, H7, I7.unpinned, q7⟩
    | ret v => obtain ⟨x7, σ7, H7, I7, r7, q7⟩ := q7; exact ⟨x7, σ7, H7, I7.unpinned, r7, q7⟩
end

theorem for_list {K : PySem.W.Frag} {a : Addr} {xs : List V} {g : TG} {tb : TS} {D : Ends} {σ : St} {H : Hp} (Pv : Nat → St → Hp → Prop) (h0 : Pv 0 σ H) (hl : ∀ i σ H, i ≤ xs.length → Pv i σ H → SqL K H a xs)
    (hs : ∀ i x σ H, xs[i]? = some x → Pv i σ H → g x σ H fun σ2 H2 => tb { D with nx := Pv (i + 1), ct := Pv (i + 1), bk := D.nx } σ2 H2) (hd : ∀ σ H, Pv xs.length σ H → D.nx σ H) :
    ∃ W : Nat → Nat → St → Hp → Prop, (∃ m, W 0 m σ H) ∧ ∀ i m σ H, W i m σ H →
      ((Itl K a).stop i H ∧ D.nx σ H) ∨ ((Itl K a).go i H ∧ ∃ N : St → Hp → Prop, (∀ σ' H', N σ' H' → ∃ m', m' < m ∧ W (i + 1) m' σ' H') ∧ ∀ x H', (Itl K a).yld i H x H' → g x σ H' fun σ2 H2 => tb { D with nx := N, ct := N, bk := D.nx } σ2 H2) := by
  refine ⟨fun i m σ H => m = xs.length - i ∧ i ≤ xs.length ∧ Pv i σ H, ⟨xs.length, by simp, Nat.zero_le _, h0⟩, ?_⟩
  rintro i m σ H ⟨rfl, hi, p⟩
  have q := hl i σ H hi p
  by_cases hlt : i < xs.length
  · refine .inr ⟨⟨xs, xs[i], q, by simp [hlt]⟩, Pv (i + 1), fun σ' H' p' => ⟨xs.length - (i + 1), by omega, rfl, hlt, p'⟩, fun x H' y => ?_⟩
    obtain ⟨e, y⟩ := y
    subst e
    exact hs i x σ _ (y xs q) p
  · have e : i = xs.length := by omega
    subst e
    exact .inl ⟨⟨xs, q, Nat.le_refl _⟩, hd σ H p⟩
theorem for_tup {K : PySem.W.Frag} {a : Addr} {xs : List V} {g : TG} {tb : TS} {D : Ends} {σ : St} {H : Hp} (Pv : Nat → St → Hp → Prop) (h0 : Pv 0 σ H) (hl : ∀ i σ H, i ≤ xs.length → Pv i σ H → SqT K H a xs)
    (hs : ∀ i x σ H, xs[i]? = some x → Pv i σ H → g x σ H fun σ2 H2 => tb { D with nx := Pv (i + 1), ct := Pv (i + 1), bk := D.nx } σ2 H2) (hd : ∀ σ H, Pv xs.length σ H → D.nx σ H) :
    ∃ W : Nat → Nat → St → Hp → Prop, (∃ m, W 0 m σ H) ∧ ∀ i m σ H, W i m σ H →
      ((Itt K a).stop i H ∧ D.nx σ H) ∨ ((Itt K a).go i H ∧ ∃ N : St → Hp → Prop, (∀ σ' H', N σ' H' → ∃ m', m' < m ∧ W (i + 1) m' σ' H') ∧ ∀ x H', (Itt K a).yld i H x H' → g x σ H' fun σ2 H2 => tb { D with nx := N, ct := N, bk := D.nx } σ2 H2) := by
  refine ⟨fun i m σ H => m = xs.length - i ∧ i ≤ xs.length ∧ Pv i σ H, ⟨xs.length, by simp, Nat.zero_le _, h0⟩, ?_⟩
  rintro i m σ H ⟨rfl, hi, p⟩
  have q := hl i σ H hi p
  by_cases hlt : i < xs.length
  · refine .inr ⟨⟨xs, xs[i], q, by simp [hlt]⟩, Pv (i + 1), fun σ' H' p' => ⟨xs.length - (i + 1), by omega, rfl, hlt, p'⟩, fun x H' y => ?_⟩
    obtain ⟨e, y⟩ := y
    subst e
    exact hs i x σ _ (y xs q) p
  · have e : i = xs.length := by omega
    subst e
    exact .inl ⟨⟨xs, q, Nat.le_refl _⟩, hd σ H p⟩
theorem for_range {lo : Int} {n : Nat} {g : TG} {tb : TS} {D : Ends} {σ : St} {H : Hp} (Pv : Nat → St → Hp → Prop) (h0 : Pv 0 σ H)
    (hs : ∀ i σ H, i < n → Pv i σ H → g (.int (lo + i)) σ H fun σ2 H2 => tb { D with nx := Pv (i + 1), ct := Pv (i + 1), bk := D.nx } σ2 H2) (hd : ∀ σ H, Pv n σ H → D.nx σ H) :
    ∃ W : Nat → Nat → St → Hp → Prop, (∃ m, W 0 m σ H) ∧ ∀ i m σ H, W i m σ H →
      ((Itr lo n).stop i H ∧ D.nx σ H) ∨ ((Itr lo n).go i H ∧ ∃ N : St → Hp → Prop, (∀ σ' H', N σ' H' → ∃ m', m' < m ∧ W (i + 1) m' σ' H') ∧ ∀ x H', (Itr lo n).yld i H x H' → g x σ H' fun σ2 H2 => tb { D with nx := N, ct := N, bk := D.nx } σ2 H2) := by
  refine ⟨fun i m σ H => m = n - i ∧ i ≤ n ∧ Pv i σ H, ⟨n, by simp, Nat.zero_le _, h0⟩, ?_⟩
  rintro i m σ H ⟨rfl, hi, p⟩
  by_cases hlt : i < n
  · refine .inr ⟨hlt, Pv (i + 1), fun σ' H' p' => ⟨n - (i + 1), by omega, rfl, hlt, p'⟩, fun x H' y => ?_⟩
    obtain ⟨e, y⟩ := y
    subst e y
    exact hs i σ _ hlt p
  · have e : i = n := by omega
    subst e
    exact .inl ⟨Nat.le_refl _, hd σ H p⟩
end L2

namespace L2
open PySem PySem.Spec PyProof.Rows

noncomputable abbrev R2 := V → V → Hp → VK → Prop
noncomputable def OpR (X : Cx) (f : Value → Value → Sem Value) (r : R2) : Prop :=
  ∀ (pins : List (Addr × Obj)) (s : Shared) (σ : St) (H : Hp) (x y : V) (v u : Value) (Q : VK), Inv X pins σ H s → RelV x v → RelV y u → r x y H Q →
    wpAny (model X.prog X.w) X.A (f v u) (EP X pins σ Q) X.xe s
noncomputable def UnR (X : Cx) (f : Value → Sem Value) (r : V → Hp → VK → Prop) : Prop :=
  ∀ (pins : List (Addr × Obj)) (s : Shared) (σ : St) (H : Hp) (x : V) (v : Value) (Q : VK), Inv X pins σ H s → RelV x v → r x H Q →
    wpAny (model X.prog X.w) X.A (f v) (EP X pins σ Q) X.xe s
noncomputable def CallR (X : Cx) (f : Value) (r : List V → Hp → VK → Prop) : Prop :=
  ∀ (pins : List (Addr × Obj)) (s : Shared) (σ : St) (H : Hp) (xs : List V) (us : List Value) (Q : VK), Inv X pins σ H s → Vals xs us → r xs H Q →
    wpAny (model X.prog X.w) X.A (call f us) (EP X pins σ Q) X.xe s
noncomputable def tOp (r : R2) (ta tb : TE) : TE := fun σ H Q => ta σ H fun x H1 => tb σ H1 fun y H2 => r x y H2 Q
noncomputable def tUn (r : V → Hp → VK → Prop) (ta : TE) : TE := fun σ H Q => ta σ H fun x H1 => r x H1 Q
noncomputable def rI (C : Int → Int → Prop) (g : Int → Int → V) : R2 := fun x y H Q => ∃ i j, x = .int i ∧ y = .int j ∧ C i j ∧ Q (g i j) H
noncomputable def rI0 (g : Int → Int → V) : R2 := fun x y H Q => ∃ i j, x = .int i ∧ y = .int j ∧ Q (g i j) H
noncomputable def rU (g : Int → V) : V → Hp → VK → Prop := fun x H Q => ∃ i, x = .int i ∧ Q (g i) H

section
variable {X : Cx} {a b c : Expr} {ta tb tc : TE} {pos : Pos}

theorem binT (ha : PE X a ta) (hb : PE X b tb) {pins : List (Addr × Obj)} {s : Shared} {σ : St} {H : Hp} {R : V → V → Hp → Prop} (I : Inv X pins σ H s)
    (h : ta σ H fun x H1 => tb σ H1 fun y H2 => R x y H2) {Q : Value → Shared → Prop} {f : Value → Value → Sem Value}
    (hf : ∀ v u s2 x y H2, Inv X pins σ H2 s2 → RelV x v → RelV y u → R x y H2 → wpAny (model X.prog X.w) X.A (f v u) Q X.xe s2) :
    wpAny (model X.prog X.w) X.A (eval a X.env) (fun v s₁ => wpAny (model X.prog X.w) X.A (eval b X.env) (fun u s₂ => wpAny (model X.prog X.w) X.A (f v u) Q X.xe s₂) X.xe s₁) X.xe s := by
  refine thn (ha pins s σ H _ I h) fun v s1 ⟨x, H1, I1, r1, q1⟩ => ?_
  refine thn (hb pins s1 σ H1 _ I1 q1) fun u s2 ⟨y, H2, I2, r2, q2⟩ => ?_
  exact hf v u s2 x y H2 I2 r1 r2 q2

theorem pe_op {op : Operator} {r : R2} (ho : OpR X (binaryOp op) r) (ha : PE X a ta) (hb : PE X b tb) : PE X (.BinOp a op b pos) (tOp r ta tb) := by
  intro pins s σ H Q I h
  exact wpAny_BinOp (binT ha hb I h fun v u s2 x y H2 I2 rx ry q => ho pins s2 σ H2 x y v u Q I2 rx ry q)
theorem pe_un {op : UnaryOp} {r : V → Hp → VK → Prop} (ho : UnR X (unaryOp op) r) (ha : PE X a ta) : PE X (.UnaryOp op a pos) (tUn r ta) := by
  intro pins s σ H Q I h
  exact UnaryOp_ (thn (ha pins s σ H _ I h) fun v s1 ⟨x, H1, I1, r1, q1⟩ => ho pins s1 σ H1 x v Q I1 r1 q1)
theorem opI {f : Value → Value → Sem Value} {C : Int → Int → Prop} {g : Int → Int → Int}
    (rule : ∀ (i j : Int) (t u : Tok) (s : Shared) (Q : Value → Shared → Prop) (E : Value → Shared → Prop), C i j → Q (.int (g i j) s.toks) { s with toks := s.toks + 1 } → wpAny (model X.prog X.w) X.A (f (.int i t) (.int j u)) Q E s) :
    OpR X f (rI C fun i j => .int (g i j)) := by
  intro pins s σ H x y v u Q I rx ry h
  obtain ⟨i, j, rfl, rfl, hc, q⟩ := h
  obtain ⟨t, rfl⟩ := rx
  obtain ⟨t', rfl⟩ := ry
  exact rule i j t t' s _ _ hc ⟨.int (g i j), H, I.tok _, ⟨_, rfl⟩, q⟩
theorem opI0 {f : Value → Value → Sem Value} {g : Int → Int → Int}
    (rule : ∀ (i j : Int) (t u : Tok) (s : Shared) (Q : Value → Shared → Prop) (E : Value → Shared → Prop), Q (.int (g i j) s.toks) { s with toks := s.toks + 1 } → wpAny (model X.prog X.w) X.A (f (.int i t) (.int j u)) Q E s) :
    OpR X f (rI0 fun i j => .int (g i j)) := by
  intro pins s σ H x y v u Q I rx ry h
  obtain ⟨i, j, rfl, rfl, q⟩ := h
  obtain ⟨t, rfl⟩ := rx
  obtain ⟨t', rfl⟩ := ry
  exact rule i j t t' s _ _ ⟨.int (g i j), H, I.tok _, ⟨_, rfl⟩, q⟩
theorem opB0 {f : Value → Value → Sem Value} {g : Int → Int → Bool}
    (rule : ∀ (i j : Int) (t u : Tok) (s : Shared) (Q : Value → Shared → Prop) (E : Value → Shared → Prop), Q (.bool (g i j)) s → wpAny (model X.prog X.w) X.A (f (.int i t) (.int j u)) Q E s) :
    OpR X f (rI0 fun i j => .bl (g i j)) := by
  intro pins s σ H x y v u Q I rx ry h
  obtain ⟨i, j, rfl, rfl, q⟩ := h
  obtain ⟨t, rfl⟩ := rx
  obtain ⟨t', rfl⟩ := ry
  exact rule i j t t' s _ _ ⟨.bl (g i j), H, I, rfl, q⟩

noncomputable def CDiv (i j : Int) : Prop := 0 < j ∧ j < 1073741824
noncomputable def CMul (i j : Int) : Prop := (-(2 ^ 64) < i ∧ i < 2 ^ 64) ∨ (-(2 ^ 64) < j ∧ j < 2 ^ 64)
theorem CMul.ok {i j : Int} (h : CMul i j) : IntMulOk i j := by
  rcases h with ⟨h1, h2⟩ | ⟨h1, h2⟩
  · exact .of_left (intBits_le_64 h1 h2)
  · exact .of_right (intBits_le_64 h1 h2)
theorem op_add : OpR X (binaryOp .Add) (rI0 fun i j => .int (i + j)) := opI0 fun _ _ _ _ _ _ _ q => add_int q
theorem op_sub : OpR X (binaryOp .Sub) (rI0 fun i j => .int (i - j)) := opI0 fun _ _ _ _ _ _ _ q => sub_int q
theorem op_mul : OpR X (binaryOp .Mult) (rI CMul fun i j => .int (i * j)) := opI fun _ _ _ _ _ _ _ hc q => mul_int q hc.ok
theorem op_fdiv : OpR X (binaryOp .FloorDiv) (rI CDiv fun i j => .int (i / j)) := opI fun i j _ _ _ _ _ hc q => by
  have h1 : (0 : Int) < j := hc.1
  have h2 : j < 1073741824 := hc.2
  exact floordiv_int (by omega) (by rw [Int.fdiv_eq_ediv_of_nonneg i (by omega)]; exact q) (.inl (PyProof.noPylong_small (by omega)))
theorem op_mod : OpR X (binaryOp .Mod) (rI (fun _ j => 0 < j) fun i j => .int (i % j)) := opI fun i j _ _ _ _ _ hc q => by
  have h1 : (0 : Int) < j := hc
  exact mod_int' (by omega) (by rw [Int.fmod_eq_emod_of_nonneg i (by omega)]; exact q)
theorem unI {f : Value → Sem Value} {g : Int → Int}
    (rule : ∀ (i : Int) (t : Tok) (s : Shared) (Q : Value → Shared → Prop) (E : Value → Shared → Prop), Q (.int (g i) s.toks) { s with toks := s.toks + 1 } → wpAny (model X.prog X.w) X.A (f (.int i t)) Q E s) :
    UnR X f (rU fun i => .int (g i)) := by
  intro pins s σ H x v Q I rx h
  obtain ⟨i, rfl, q⟩ := h
  obtain ⟨t, rfl⟩ := rx
  exact rule i t s _ _ ⟨.int (g i), H, I.tok _, ⟨_, rfl⟩, q⟩
theorem un_neg : UnR X (unaryOp .USub) (rU fun i => .int (-i)) := unI fun _ _ _ _ _ q => neg_int q
end

noncomputable def scal : V → V → Bool
  | .non, .non => true | .non, .int _ => true | .int _, .non => true | .non, .bl _ => true | .bl _, .non => true | .non, .str _ => true | .str _, .non => true
  | .int _, .int _ => true | .bl _, .bl _ => true | .str _, .str _ => true | .byt _, .byt _ => true
  | .int _, .str _ => true | .str _, .int _ => true | .bl _, .str _ => true | .str _, .bl _ => true
  | _, _ => false
noncomputable def rEq : R2 := fun x y H Q => scal x y = true ∧ Q (.bl (decide (x = y))) H
noncomputable def rNe : R2 := fun x y H Q => scal x y = true ∧ Q (.bl (!decide (x = y))) H

theorem dec_int {i j : Int} : decide (V.int i = V.int j) = (i == j) := by
  rw [Bool.eq_iff_iff]
  simp
theorem dec_bl {i j : Bool} : decide (V.bl i = V.bl j) = (i == j) := by
  rw [Bool.eq_iff_iff]
  simp
theorem dec_str {i j : Str} : decide (V.str i = V.str j) = (i == j) := by
  rw [Bool.eq_iff_iff]
  simp
theorem dec_byt {i j : Array UInt8} : decide (V.byt i = V.byt j) = (i.toList == j.toList) := by
  rw [Bool.eq_iff_iff]
  cases i
  cases j
  simp

section
variable {X : Cx} {a b c : Expr} {ta tb tc : TE} {pos : Pos}
theorem fin_bl {pins : List (Addr × Obj)} {σ : St} {H : Hp} {s : Shared} {Q : VK} {k k' : Bool} (I : Inv X pins σ H s) (q : Q (.bl k) H) (e : k = k') : EP X pins σ Q (.bool k') s := by
  subst e
  exact ⟨.bl k, H, I, rfl, q⟩
theorem op_eq : OpR X (compareOp .Eq) rEq := by
  intro pins s σ H x y v u Q I rx ry h
  obtain ⟨hs, q⟩ := h
  cases x with
  | non =>
    cases rx
    cases y with
    | non => cases ry; exact PySem.EqNone.eq_none_none (fin_bl I q (by simp))
    | bl j => cases ry; exact PySem.EqNone.eq_none_bool (fin_bl I q (by simp))
    | int j => obtain ⟨t', rfl⟩ := ry; exact PySem.EqNone.eq_none_int (fin_bl I q (by simp))
    | str j => obtain ⟨t', rfl⟩ := ry; exact PySem.EqNone.eq_none_str (fin_bl I q (by simp))
    | _ => exact absurd (show false = true from hs) Bool.false_ne_true
  | bl i =>
    cases rx
    cases y with
    | non => cases ry; exact PySem.EqNone.eq_bool_none (fin_bl I q (by simp))
    | bl j => cases ry; exact eq_bool (fin_bl I q dec_bl)
    | str j => obtain ⟨t', rfl⟩ := ry; exact PySem.EqMixed.eq_bool_str (fin_bl I q (by simp))
    | _ => exact absurd (show false = true from hs) Bool.false_ne_true
  | int i =>
    obtain ⟨t, rfl⟩ := rx
    cases y with
    | non => cases ry; exact PySem.EqNone.eq_int_none (fin_bl I q (by simp))
    | int j => obtain ⟨t', rfl⟩ := ry; exact eq_int (fin_bl I q dec_int)
    | str j => obtain ⟨t', rfl⟩ := ry; exact PySem.EqMixed.eq_int_str (fin_bl I q (by simp))
    | _ => exact absurd (show false = true from hs) Bool.false_ne_true
  | str i =>
    obtain ⟨t, rfl⟩ := rx
    cases y with
    | non => cases ry; exact PySem.EqNone.eq_str_none (fin_bl I q (by simp))
    | bl j => cases ry; exact PySem.EqMixed.eq_str_bool (fin_bl I q (by simp))
    | int j => obtain ⟨t', rfl⟩ := ry; exact PySem.EqMixed.eq_str_int (fin_bl I q (by simp))
    | str j => obtain ⟨t', rfl⟩ := ry; exact eq_str (fin_bl I q dec_str)
    | _ => exact absurd (show false = true from hs) Bool.false_ne_true
  | byt i =>
    obtain ⟨t, rfl⟩ := rx
    cases y with
    | byt j => obtain ⟨t', rfl⟩ := ry; exact PySem.W.eq_bytes (fin_bl I q dec_byt)
    | _ => exact absurd (show false = true from hs) Bool.false_ne_true
  | _ => cases y <;> exact absurd (show false = true from hs) Bool.false_ne_true
theorem op_ne : OpR X (compareOp .NotEq) rNe := by
  intro pins s σ H x y v u Q I rx ry h
  obtain ⟨hs, q⟩ := h
  cases x with
  | non =>
    cases rx
    cases y with
    | non => cases ry; exact PySem.EqNone.ne_none_none (fin_bl I q (by simp))
    | bl j => cases ry; exact PySem.EqNone.ne_none_bool (fin_bl I q (by simp))
    | int j => obtain ⟨t', rfl⟩ := ry; exact PySem.EqNone.ne_none_int (fin_bl I q (by simp))
    | str j => obtain ⟨t', rfl⟩ := ry; exact PySem.EqNone.ne_none_str (fin_bl I q (by simp))
    | _ => exact absurd (show false = true from hs) Bool.false_ne_true
  | bl i =>
    cases rx
    cases y with
    | non => cases ry; exact PySem.EqNone.ne_bool_none (fin_bl I q (by simp))
    | bl j => cases ry; exact ne_bool (fin_bl I q (congrArg not dec_bl))
    | str j => obtain ⟨t', rfl⟩ := ry; exact PySem.EqMixed.ne_bool_str (fin_bl I q (by simp))
    | _ => exact absurd (show false = true from hs) Bool.false_ne_true
  | int i =>
    obtain ⟨t, rfl⟩ := rx
    cases y with
    | non => cases ry; exact PySem.EqNone.ne_int_none (fin_bl I q (by simp))
    | int j => obtain ⟨t', rfl⟩ := ry; exact ne_int (fin_bl I q (congrArg not dec_int))
    | str j => obtain ⟨t', rfl⟩ := ry; exact PySem.EqMixed.ne_int_str (fin_bl I q (by simp))
    | _ => exact absurd (show false = true from hs) Bool.false_ne_true
  | str i =>
    obtain ⟨t, rfl⟩ := rx
    cases y with
    | non => cases ry; exact PySem.EqNone.ne_str_none (fin_bl I q (by simp))
    | bl j => cases ry; exact PySem.EqMixed.ne_str_bool (fin_bl I q (by simp))
    | int j => obtain ⟨t', rfl⟩ := ry; exact PySem.EqMixed.ne_str_int (fin_bl I q (by simp))
    | str j => obtain ⟨t', rfl⟩ := ry; exact ne_str (fin_bl I q (congrArg not dec_str))
    | _ => exact absurd (show false = true from hs) Bool.false_ne_true
  | byt i =>
    obtain ⟨t, rfl⟩ := rx
    cases y with
    | byt j => obtain ⟨t', rfl⟩ := ry; exact PySem.W.ne_bytes (fin_bl I q (congrArg not dec_byt))
    | _ => exact absurd (show false = true from hs) Bool.false_ne_true
  | _ => cases y <;> exact absurd (show false = true from hs) Bool.false_ne_true

theorem op_lt : OpR X (compareOp .Lt) (rI0 fun i j => .bl (decide (i < j))) := opB0 fun _ _ _ _ _ _ _ q => lt_int q
theorem op_le : OpR X (compareOp .LtE) (rI0 fun i j => .bl (decide (i ≤ j))) := opB0 fun _ _ _ _ _ _ _ q => le_int q
theorem op_gt : OpR X (compareOp .Gt) (rI0 fun i j => .bl (decide (j < i))) := opB0 fun _ _ _ _ _ _ _ q => gt_int q
theorem op_ge : OpR X (compareOp .GtE) (rI0 fun i j => .bl (decide (j ≤ i))) := opB0 fun _ _ _ _ _ _ _ q => ge_int q
theorem OpR.or {f : Value → Value → Sem Value} {r r' : R2} (h : OpR X f r) (h' : OpR X f r') : OpR X f (fun x y H Q => r x y H Q ∨ r' x y H Q) := by
  intro pins s σ H x y v u Q I rx ry q
  rcases q with q | q
  · exact h pins s σ H x y v u Q I rx ry q
  · exact h' pins s σ H x y v u Q I rx ry q

theorem nomark (b : Expr) {op : CmpOp} (h : op ≠ .In := by decide) (h2 : op ≠ .NotIn := by decide) : behindInMarks op b = false := by
  have e1 : (op == CmpOp.In) = false := by cases op <;> first | rfl | exact absurd rfl h
  have e2 : (op == CmpOp.NotIn) = false := by cases op <;> first | rfl | exact absurd rfl h2
  cases b <;> simp [behindInMarks, e1, e2]
theorem pe_cmpR {op : CmpOp} {r : R2} (ho : OpR X (compareOp op) r) (ha : PE X a ta) (hb : PE X b tb) (hm : behindInMarks op b = false) : PE X (.Compare a [op] [b] pos) (tOp r ta tb) := by
  intro pins s σ H Q I h
  exact wpAny_Compare1 (binT ha hb I h fun v u s2 x y H2 I2 rx ry q => ho pins s2 σ H2 x y v u Q I2 rx ry q) hm
noncomputable def tTest (t : TE) : TT := fun σ H Q => t σ H fun x H' => ∃ k, x = .bl k ∧ Q k H'
theorem pt_cmpR {op : CmpOp} {r : R2} (ho : OpR X (compareOp op) r) (ha : PE X a ta) (hb : PE X b tb) (hm : behindInMarks op b = false) : PT X (.Compare a [op] [b] pos) (tTest (tOp r ta tb)) := by
  intro pins s σ H Q I h
  refine wpAny_isTrue_Compare1 (thn (ha pins s σ H _ I h) fun v s1 ⟨x, H1, I1, r1, q1⟩ => thn (hb pins s1 σ H1 _ I1 q1) fun u s2 ⟨y, H2, I2, r2, q2⟩ =>
    thn (ho pins s2 σ H2 x y v u _ I2 r1 r2 q2) fun c s3 ⟨z, H3, I3, r3, k, e, q3⟩ => ?_) hm
  subst e
  cases r3
  exact wpAny_truthy_bool ⟨H3, I3, q3⟩
theorem line63 : (sizeLine : Nat) < 2 ^ 63 := by rw [sizeLine_eq]; decide
theorem vals1 {x : V} {us : List Value} (r : Vals [x] us) : ∃ u, us = [u] ∧ RelV x u := by
  cases r with
  | cons r1 r2 => cases r2; exact ⟨_, rfl, r1⟩
theorem vals2 {x y : V} {us : List Value} (r : Vals [x, y] us) : ∃ u w', us = [u, w'] ∧ RelV x u ∧ RelV y w' := by
  cases r with
  | cons r1 r2 =>
    cases r2 with
    | cons r3 r4 => cases r4; exact ⟨_, _, rfl, r1, r3⟩
theorem call_min2 (hc : X.calm = true) : CallR X (.builtin "min") (fun xs H Q => ∃ i j, xs = [.int i, .int j] ∧ Q (.int (if j < i then j else i)) H) := by
  intro pins s σ H xs us Q I r h
  obtain ⟨i, j, rfl, q⟩ := h
  obtain ⟨u, w', rfl, ⟨t, rfl⟩, ⟨t', rfl⟩⟩ := vals2 r
  refine min_two_ints (I.ok.hd hc) fun h' tk k => ⟨_, H, I.kept k, ?_, q⟩
  by_cases hj : j < i
  · rw [if_pos hj, if_pos hj]; exact ⟨_, rfl⟩
  · rw [if_neg hj, if_neg hj]; exact ⟨_, rfl⟩
theorem call_str_int : CallR X (.type "str") (fun xs H Q => ∃ i, xs = [.int i] ∧ i.natAbs.log2 < 1920 ∧ Q (.str (toString i)) H) := by
  intro pins s σ H xs us Q I r h
  obtain ⟨i, rfl, hz, q⟩ := h
  obtain ⟨u, rfl, t, rfl⟩ := vals1 r
  exact PySem.P.str_of_int hz ⟨.str _, H, I.tok _, ⟨_, rfl⟩, q⟩
end
end L2

namespace L2
open PySem PySem.Spec PyProof.Rows

structure ObjM (h : Heap) (x dx C : Addr) (mA : Str → Option Value) : Prop where
  obj : h.get? x = some (PySem.W.instObj C dx)
  ns : h.Ns1 dx mA
  ne : dx ≠ x

theorem lookIn_ns {h : Heap} {dx : Addr} {mA : Str → Option Value} (n : h.Ns1 dx mA) : ∃ od, h.get? dx = some od ∧ ∀ name, PySem.W.lookIn name od = some (mA name) := by
  obtain ⟨o, es, ep, ho, hd, hk, _, hm⟩ := n
  refine ⟨o, ho, fun name => ?_⟩
  have e := hm name
  unfold nsFind findBy at e
  rw [← Array.find?_toList] at e
  unfold PySem.W.lookIn
  rw [hd]
  dsimp only
  split
  · rename_i y q
    rw [q] at e
    exact congrArg some e
  · rename_i q
    rw [q] at e
    have a : es.toList.any (·.refKey) = false := by
      rw [List.any_eq_false]
      intro y hy
      obtain ⟨z, t, hkey⟩ := hk y (Array.mem_toList_iff.mp hy)
      simp [DictEntry.refKey, hkey]
    have a' : ¬ es.toList.any (·.refKey) = true := by rw [a]; exact Bool.false_ne_true
    rw [if_neg a']
    exact congrArg some e

theorem ObjM.look {h : Heap} {x dx C : Addr} {mA : Str → Option Value} (I : ObjM h x dx C mA) : ∃ od, PySem.W.InstAt h x (PySem.W.instObj C dx) C (some od) ∧ ∀ name, PySem.W.lookIn name od = some (mA name) :=
  let ⟨od, ho, hl⟩ := lookIn_ns I.ns
  ⟨od, ⟨I.obj, rfl, rfl, ho⟩, hl⟩

section
variable {prog : Program} {w : World} {A : Around} {E : Value → Shared → Prop} {s : Shared} {K : PySem.W.Frag} {x dx C f : Addr} {mA : Str → Option Value} {name : Str} {v : Value}

end

theorem RelO.none_of {o : Option Value} (r : RelO none o) : o = none := by
  cases o with
  | none => rfl
  | some u => exact (show False from r).elim
section
variable {P : Program} {w : World} {H H' : Hp} {h h' : Heap} {a C dx : Addr} {fs fs' : List (Str × V)}
end

structure Cls (K : PySem.W.Frag) (C : Addr) : Prop where
  pg : PySem.W.plainGet K C Str.empty = true
  hd : PySem.W.hasDictIn K C = true
  po : PySem.W.plainOver K C = true
  sa : PySem.W.findIn K (.ref C) "__setattr__" = some (some (.builtin "object.__setattr__"))
theorem Cls.get {K : PySem.W.Frag} {C : Addr} (c : Cls K C) (f : Str) : PySem.W.plainGet K C f = true := c.pg
structure Con (K : PySem.W.Frag) (C : Addr) (f : Str) (v : V) (u : Value) : Prop where
  at_ : PySem.W.findIn K (.ref C) f = some (some u)
  rel : RelV v u
  get : PySem.W.specialIn K u "__get__" = some none
  cp : PySem.W.copiedNames.contains f = false
structure Meth (K : PySem.W.Frag) (C : Addr) (m : Str) (f : Addr) : Prop where
  at_ : PySem.W.findIn K (.ref C) m = some (some (.ref f))
  fn : PySem.W.isFn K (.ref f) = true
  kp : PySem.W.keepIn K (.ref f) = true

section
variable {X : Cx} {pins : List (Addr × Obj)} {σ : St} {H : Hp} {s : Shared} {a C dx : Addr} {fs : List (Str × V)} {f : Str} {v : V} {A : Around} {E : Value → Shared → Prop}

theorem Inv.made (I : Inv X pins σ H s) : Inv X pins σ (upd (upd H s.heap.objs.size (.own (s.heap.objs.size + 1))) (s.heap.objs.size + 1) (.ins C s.heap.objs.size []))
    { s with heap := (s.heap.push PySem.W.emptyDict).push (PySem.W.instObj C s.heap.objs.size) } := by
  have e1 : (s.heap.push PySem.W.emptyDict).get? s.heap.objs.size = some PySem.W.emptyDict := Heap.get?_push_size s.heap rfl
  have e2 : ((s.heap.push PySem.W.emptyDict).push (PySem.W.instObj C s.heap.objs.size)).get? (s.heap.objs.size + 1) = some (PySem.W.instObj C s.heap.objs.size) := by
    have := Heap.get?_push_size (s.heap.push PySem.W.emptyDict) (o := PySem.W.instObj C s.heap.objs.size) rfl
    rwa [Heap.size_push] at this
  have e3 : (s.heap.push PySem.W.emptyDict).Ns s.heap.objs.size (fun _ => none) := ⟨PySem.W.emptyDict, #[], _, e1, rfl, (fun e he => absurd he (by simp)), fun _ => rfl⟩
  have I1 := I.laid (a := s.heap.objs.size) (o := .own (s.heap.objs.size + 1)) (h' := s.heap.push PySem.W.emptyDict) (t' := s.toks) (fun b u q => Heap.get?_push_of_some _ q) (Nat.le_refl _) ⟨_, e1⟩
  refine I1.laid (a := s.heap.objs.size + 1) (o := .ins C s.heap.objs.size []) (t' := s.toks) (fun b u q => Heap.get?_push_of_some _ q) (Nat.le_of_eq (Heap.size_push _ _)) ?_
  have ne : s.heap.objs.size ≠ s.heap.objs.size + 1 := Nat.ne_of_lt (Nat.lt_succ_self _)
  refine ⟨by rw [upd_ne ne, upd_same], Nat.zero_le _, ne, e2, fun _ => none, (Heap.Ns1.of_empty e3).at fun o q => Heap.get?_push_of_some _ q, fun _ => True.intro, fun y hy => absurd rfl hy⟩

end

section
variable {X : Cx} {o e value : Expr} {f : Str} {pos pos' tpos : Pos} {ta tv : TE}
end

section
variable {X : Cx} {pins : List (Addr × Obj)} {σ : St} {H : Hp} {s : Shared} {A : Around} {E : Value → Shared → Prop} {Q : Value → Shared → Prop} {c : Value} {b : Bool}
inductive TyOf (K : PySem.W.Frag) (H : Hp) : V → Value → Prop where
  | non : TyOf K H .non (.type "NoneType")
  | bl (x : Bool) : TyOf K H (.bl x) (.type "bool")
  | int (i : Int) : TyOf K H (.int i) (.type "int")
  | str (x : Str) : TyOf K H (.str x) (.type "str")
  | flt (x : UInt64) : TyOf K H (.flt x) (.type "float")
  | lst {a : Addr} {xs : List V} (e : H a = some (.lst xs)) : TyOf K H (.ref a) (.type "list")
  | frz {a : Addr} {o : Obj} {xs : List V} (e : H a = some (.frz o (.lst xs))) : TyOf K H (.ref a) (.type "list")
  | tup {a : Addr} {xs : List V} (e : H a = some (.tup xs)) : TyOf K H (.ref a) (.type "tuple")
  | dK {a : Addr} {kvs : List (Key × V)} (e : H a = some (.dK kvs)) : TyOf K H (.ref a) (.type "dict")
  | dT {a : Addr} {kvs : List (List Key × V)} (e : H a = some (.dT kvs)) : TyOf K H (.ref a) (.type "dict")
  | ins {a C dx : Addr} {fs : List (Str × V)} (e : H a = some (.ins C dx fs)) (cl : Cls K C) (ha : PySem.W.findIn K (.ref C) "__class__" = some (some (.builtin "object.__class__")))
      (hn : PySem.W.specialIn K (.builtin "object.__class__") "__get__" = some (some (.builtin "getset_descriptor.__get__"))) (htk : PySem.W.takesIn K (.builtin "object.__class__") = some true)
      (hm : PySem.W.mroIn K C (.type "object") = some true) : TyOf K H (.ref a) (.ref C)
end
end L2

namespace L2
open PySem PySem.Spec PyProof.Rows

structure Room (k : Nat) (A : Around) : Prop where
  hd : A.handled = none
  dp : A.depth + 3 * k + 5 < recursionLimit
  un : A.units + 16 * k + 200 < cLine
theorem Room.mono {j k : Nat} {A : Around} (r : Room k A) (h : j ≤ k) : Room j A := ⟨r.hd, by have := r.dp; omega, by have := r.un; omega⟩
theorem Room.deeper {k : Nat} {A : Around} (r : Room (k + 1) A) (env : Env) : Room k (A.deeper env) :=
  ⟨r.hd, by have := r.dp; show A.depth + 1 + 3 * k + 5 < _; omega, by have := r.un; show A.units + 3 + 16 * k + 200 < _; omega⟩
theorem Room.in1 {k : Nat} {A : Around} (r : Room (k + 1) A) : Room k A.in1 :=
  ⟨r.hd, by have := r.dp; show A.depth + 3 * k + 5 < _; omega, by have := r.un; show A.units + 1 + 16 * k + 200 < _; omega⟩
theorem make_depth {A : Around} {C : Addr} {us : List Value} {kw : List (Str × Value)} : (A.under (.builtin "type.__call__" ⟨.ref C :: us, kw⟩)).depth = A.depth + 1 := by
  first | rfl | simp [Around.under, Code.weight, Code.isCreation, Code.isGuard, Code.isCaller, Code.frames, Code.isFrame, guardIds]
theorem make_units {A : Around} {C : Addr} {us : List Value} {kw : List (Str × Value)} : (A.under (.builtin "type.__call__" ⟨.ref C :: us, kw⟩)).units = A.units + 1 := by
  first | rfl | simp [Around.under, Code.cUnits, Code.frames, Code.isFrame]
theorem Room.make {k : Nat} {A : Around} (r : Room (k + 1) A) (C : Addr) (us : List Value) (kw : List (Str × Value)) : Room k (A.under (.builtin "type.__call__" ⟨.ref C :: us, kw⟩)) :=
  ⟨r.hd, by have := r.dp; rw [make_depth]; omega, by have := r.un; rw [make_units]; omega⟩
theorem Room.depth {k : Nat} {A : Around} (r : Room k A) : A.depth < recursionLimit := by have := r.dp; omega
theorem Room.units {k : Nat} {A : Around} (r : Room k A) : A.units + 64 < cLine := by have := r.un; omega
noncomputable def tNil : TA := fun _ H Q => Q [] H
noncomputable def tCons (ta : TE) (tr : TA) : TA := fun σ H Q => ta σ H fun x H1 => tr σ H1 fun xs H2 => Q (x :: xs) H2
section
variable {X : Cx} {e : Expr} {es : List Expr} {te : TE} {t : TA} {pos : Pos}
theorem pa_nil : PA X [] tNil := fun _ _ _ _ H Q I h => Calls.spliced_nil ⟨[], H, I, .nil, h⟩
theorem pa_cons (ha : PE X e te) (hr : PA X es t) (hs : starEach (e :: es) X.env = (false, eval e X.env) :: starEach es X.env := by rfl) : PA X (e :: es) (tCons te t) := by
  intro pos pins s σ H Q I h
  rw [hs]
  show wpAny _ _ (spliced ((false, eval e X.env) :: backTo pos (starEach es X.env))) _ _ s
  refine Calls.spliced_cons (thn (ha pins s σ H _ I h) fun u s1 ⟨x, H1, I1, r1, q1⟩ => ?_)
  exact thn (hr pos pins s1 σ H1 _ I1 q1) fun us s2 ⟨xs, H2, I2, r2, q2⟩ => ⟨x :: xs, H2, I2, .cons r1 r2, q2⟩

noncomputable def tTup (t : TA) : TE := fun σ H Q => t σ H fun xs H1 => xs.length ≤ sizeLine ∧ ∀ p, H1 p = none → Q (.ref p) (upd H1 p (.tup xs))
noncomputable def tLst (t : TA) : TE := fun σ H Q => t σ H fun xs H1 => xs.length ≤ sizeLine ∧ ∀ p, H1 p = none → Q (.ref p) (upd H1 p (.lst xs))
theorem pe_tup {x1} (h : PA X es t) : PE X (.Tuple es x1 pos) (tTup t) := by
  intro pins s σ H Q I hq
  refine wpAny_Tuple_spliced (thn (h pos pins s σ H _ I hq) fun us s1 ⟨xs, H1, I1, r, z, q⟩ => ⟨by rw [← r.length]; exact z, ?_⟩)
  have hf : H1 s1.heap.objs.size = none := I1.hok.fresh (Nat.le_refl _)
  refine ⟨.ref s1.heap.objs.size, upd H1 s1.heap.objs.size (.tup xs), I1.laid (t' := s1.toks) (fun b u e => Heap.get?_push_of_some _ e) (Nat.le_refl _) ?_, rfl, q _ hf⟩
  exact ⟨z, us, r, ⟨_, Heap.get?_push_size _ rfl, rfl, _, rfl⟩⟩
theorem pe_lst (h : PA X es t) : PE X (.List es pos) (tLst t) := by
  intro pins s σ H Q I hq
  refine wpAny_List_spliced (thn (h pos pins s σ H _ I hq) fun us s1 ⟨xs, H1, I1, r, z, q⟩ => ⟨by rw [← r.length]; exact z, ?_⟩)
  have hf : H1 s1.heap.objs.size = none := I1.hok.fresh (Nat.le_refl _)
  refine ⟨.ref s1.heap.objs.size, upd H1 s1.heap.objs.size (.lst xs), I1.laid (t' := s1.toks) (fun b u e => Heap.get?_push_of_some _ e) (Nat.le_refl _) ?_, rfl, q _ hf⟩
  exact ⟨z, us, 0, r, Heap.get?_push_size _ rfl⟩
end

noncomputable abbrev Sp := List V → Hp → VK → XK → Prop
noncomputable abbrev CXT := List Env → Hp → Shared → XK → Value → Shared → Prop

structure Env0 (P : Program) (w : World) (K : PySem.W.Frag) (mg : Str → Option Value) (base : Heap) (A : Around) (outer : List Env) (s : Shared) (H : Hp) : Prop where
  frames : A.frames = some outer
  mod : Mod K mg base
  bs : ∀ b o, base.get? b = some o → s.heap.get? b = some o ∧ H b = none
  bsz : base.objs.size ≤ s.heap.objs.size
  funs : s.heap.FunFrames base outer
  frf : ∀ b ∈ frs outer, H b = none
  hok : HOk P w H s.heap
  bare : AllBare s.gens
noncomputable def CE (outer : List Env) (P : Program) (w : World) (H : Hp) (s : Shared) (Q : VK) (u : Value) (s' : Shared) : Prop :=
  ∃ v H', s'.os = s.os ∧ AllBare s'.gens ∧ Un (frs outer) [] H H' s.heap s'.heap ∧ HOk P w H' s'.heap ∧ RelV v u ∧ Q v H'
noncomputable def CR (CX : CXT) (outer : List Env) (P : Program) (w : World) (H : Hp) (s : Shared) (Q : VK) (E : XK) (r : Result) (s' : Shared) : Prop :=
  match r with
  | .ok (.ret u) => CE outer P w H s Q u s'
  | .ok _ => False
  | .error e => CX outer H s E e s'
structure FnOk (P : Program) (w : World) (K : PySem.W.Frag) (mg : Str → Option Value) (base : Heap) (CX : CXT) (k : Nat) (f : Addr) (fd : FuncData) (ps : List Str) (sp : Sp) : Prop where
  len : ∀ vs H Q E, sp vs H Q E → vs.length = ps.length
  run : ∀ (A : Around) (outer : List Env) (s : Shared) (H : Hp) (args : Args) (us : List Value) (vs : List V) (Q : VK) (E : XK), Room k A → Env0 P w K mg base A outer s H → BindsTo s fd args (ps.zip us) → Vals vs us → sp vs H Q E →
    codeAny (model P w) A (.call (.ref f) args) (CR CX outer P w H s Q E) s
theorem FnOk.mono {P : Program} {w : World} {K : PySem.W.Frag} {mg : Str → Option Value} {base : Heap} {CX : CXT} {j k : Nat} {f : Addr} {fd : FuncData} {ps : List Str} {sp : Sp} (F : FnOk P w K mg base CX j f fd ps sp) (h : j ≤ k) :
    FnOk P w K mg base CX k f fd ps sp := ⟨F.len, fun A outer s H args us vs Q E hr => F.run A outer s H args us vs Q E (hr.mono h)⟩
theorem FnOk.imp {P : Program} {w : World} {K : PySem.W.Frag} {mg : Str → Option Value} {base : Heap} {CX : CXT} {k : Nat} {f : Addr} {fd : FuncData} {ps : List Str} {sp sp' : Sp} (F : FnOk P w K mg base CX k f fd ps sp)
    (h : ∀ vs H Q E, sp' vs H Q E → sp vs H Q E) : FnOk P w K mg base CX k f fd ps sp' :=
  ⟨fun vs H Q E q => F.len vs H Q E (h _ _ _ _ q), fun A outer s H args us vs Q E hr he hb hv hs => F.run A outer s H args us vs Q E hr he hb hv (h _ _ _ _ hs)⟩

theorem Env0.make {P : Program} {w : World} {K : PySem.W.Frag} {mg : Str → Option Value} {base : Heap} {A : Around} {outer : List Env} {s : Shared} {H : Hp} (e : Env0 P w K mg base A outer s H) (C : Addr) (us : List Value) (kw : List (Str × Value)) :
    Env0 P w K mg base (A.under (.builtin "type.__call__" ⟨.ref C :: us, kw⟩)) outer s H := ⟨by first | exact e.frames | (simpa [Around.under, Code.envs, Code.isFrame, pushEnvs] using e.frames), e.mod, e.bs, e.bsz, e.funs, e.frf, e.hok, e.bare⟩
theorem Env0.in1 {P : Program} {w : World} {K : PySem.W.Frag} {mg : Str → Option Value} {base : Heap} {A : Around} {outer : List Env} {s : Shared} {H : Hp} (e : Env0 P w K mg base A outer s H) :
    Env0 P w K mg base A.in1 outer s H := ⟨e.frames, e.mod, e.bs, e.bsz, e.funs, e.frf, e.hok, e.bare⟩

section
variable {X : Cx} {pins : List (Addr × Obj)} {σ : St} {H : Hp} {s s' : Shared}
theorem Inv.env0 (I : Inv X pins σ H s) : Env0 X.prog X.w X.K X.mg X.base X.A X.stack s H :=
  ⟨I.ok.frames, I.ok.mod, I.bs, Nat.le_trans I.ok.bsz I.sz, I.stack, I.stkFree, I.hok, I.bare⟩
theorem Inv.after {Q : VK} {u : Value} (I : Inv X pins σ H s) (h : CE X.stack X.prog X.w H s Q u s') : EP X pins σ Q u s' := by
  obtain ⟨v, H', os, bare, un, hok, r, q⟩ := h
  obtain ⟨hh, g, d, t, os'⟩ := s'
  obtain rfl : os' = s.os := os
  exact ⟨v, H', I.call (h' := hh) (g' := g) (d' := d) (t' := t) (ch := []) un hok bare (fun b z => absurd z (by simp)), r, q⟩
end

noncomputable def tCall (sp : Sp) (dvs : List V) (E : XK) (t : TA) : TE := fun σ H Q => t σ H fun vs H1 => sp (vs ++ dvs) H1 Q E
noncomputable def Binds (K : PySem.W.Frag) (fd : FuncData) (ps : List Str) (ds : List Value) : Prop :=
  ∀ (s : Shared) (us : List Value), K.In s.heap → (us ++ ds).length = ps.length → BindsTo s fd ⟨us, []⟩ (ps.zip (us ++ ds))
theorem Binds.all {K : PySem.W.Frag} {fd : FuncData} {ps : List Str} (h : ∀ us : List Value, us.length = ps.length → bindArgs fd ⟨us, []⟩ = pure (ps.zip us)) : Binds K fd ps [] := fun s us _ hl => by
  rw [List.append_nil] at hl ⊢
  exact .of_eq (h us hl)

noncomputable def Passes (CX : CXT) (X : Cx) (E : XK) : Prop := ∀ (pins : List (Addr × Obj)) (σ : St) (H : Hp) (s : Shared) (e : Value) (s' : Shared), Inv X pins σ H s → CX X.stack H s E e s' → X.xe e s'

section
variable {X : Cx} {CX : CXT} {k : Nat} {f C : Addr} {fd : FuncData} {ps : List Str} {sp : Sp} {dvs : List V} {ds : List Value} {E : XK} {x m : Str} {p pos apos : Pos} {e o : Expr} {es : List Expr} {ta : TE} {t : TA}

theorem run_fn {pins : List (Addr × Obj)} {σ : St} {H : Hp} {s : Shared} {Q : VK} {us : List Value} {vs : List V} (F : FnOk X.prog X.w X.K X.mg X.base CX k f fd ps sp) (hr : Room k X.A) (hb : Binds X.K fd ps ds) (hd : Vals dvs ds) (hx : Passes CX X E)
    (I : Inv X pins σ H s) (r : Vals vs us) (h : sp (vs ++ dvs) H Q E) : wpAny (model X.prog X.w) X.A (call (.ref f) us) (EP X pins σ Q) X.xe s := by
  have r2 : Vals (vs ++ dvs) (us ++ ds) := r.append hd
  have hl : (us ++ ds).length = ps.length := by rw [← r2.length]; exact F.len _ _ _ _ h
  refine wpAny_call (codeAny_mono (F.run X.A X.stack s H ⟨us, []⟩ (us ++ ds) (vs ++ dvs) Q E hr I.env0 (hb s us I.kIn hl) r2 h) fun r s' hq => ?_)
  cases r with
  | error e => exact hx pins σ H s e s' I hq
  | ok fl =>
    cases fl with
    | ret u => exact I.after hq
    | next => exact False.elim hq
    | brk => exact False.elim hq
    | cont => exact False.elim hq

theorem pe_call (F : FnOk X.prog X.w X.K X.mg X.base CX k f fd ps sp) (hr : Room k X.A) (hg : Gl X x) (hm : X.mg x = some (.ref f)) (hk : PySem.W.keepIn X.K (.ref f) = true) (hb : Binds X.K fd ps ds) (hd : Vals dvs ds) (hx : Passes CX X E)
    (ha : PA X (e :: es) t) (hdb : (x == ("__debug__" : Str)) = false := by decide) (he : starEach (e :: es) X.env = (false, eval e X.env) :: starEach es X.env := by rfl) (hpl : (backTo pos (starEach es X.env)).any (·.1) = false := by rfl) :
    PE X (.Call (.Name x p) (e :: es) [] pos) (tCall sp dvs E t) := by
  intro pins s σ H Q I h
  refine wpAny_Call_Name_kw (ld_glob I hg hm ?_ hdb)
  refine PySem.W.callWith_K (h₀ := X.base) I.ok.mod.kin hk (thn (ha pos pins s σ H _ I h) fun us s1 ⟨vs, H1, I1, r, q⟩ => ⟨I1.kIn, ?_⟩) he hpl
  exact run_fn F hr hb hd hx I1 r q
structure Mk (K : PySem.W.Frag) (C f : Addr) : Prop where
  makes : PySem.W.makesIn K C = true
  init : PySem.W.findIn K (.ref C) "__init__" = some (some (.ref f))
  fn : PySem.W.isFn K (.ref f) = true
  kp : PySem.W.keepIn K (.ref C) = true

end

noncomputable def PK (X : Cx) (kws : List Keyword) (t : TA) : Prop :=
  ∀ (pos : Pos) (pins : List (Addr × Obj)) (s : Shared) (σ : St) (H : Hp) (Q : List V → Hp → Prop), Inv X pins σ H s → t σ H Q → wpAny (model X.prog X.w) X.A (evalAll ((backToKw pos (keywordEach kws X.env)).map (·.2))) (AP X pins σ Q) X.xe s
section
variable {X : Cx} {CX : CXT} {k : Nat} {f C : Addr} {fd : FuncData} {ps ks : List Str} {sp : Sp} {E : XK} {x m : Str} {p pos apos kpos : Pos} {e o : Expr} {es : List Expr} {kws : List Keyword} {te ta : TE} {t tk : TA} {nm : Option Str}
theorem pk_nil : PK X [] tNil := fun _ _ _ _ H Q I h => wpAny_evalAll_nil ⟨[], H, I, .nil, h⟩
theorem pk_cons (ha : PE X e te) (hr : PK X kws t) : PK X (⟨nm, e, kpos⟩ :: kws) (tCons te t) := by
  intro pos pins s σ H Q I h
  show wpAny _ _ (evalAll ((do let v ← eval e X.env; standAt pos; pure v) :: (backToKw pos (keywordEach kws X.env)).map (·.2))) _ _ s
  refine wpAny_evalAll_cons (wpAny_bind (thn (ha pins s σ H _ I h) fun u s1 ⟨x, H1, I1, r1, q1⟩ => wpAny_bind (wpAny_standAt (wpAny_pure ?_))))
  exact thn (hr pos pins s1 σ H1 _ I1 q1) fun us s2 ⟨xs, H2, I2, r2, q2⟩ => ⟨x :: xs, H2, I2, .cons r1 r2, q2⟩

structure KBinds (K : PySem.W.Frag) (fd : FuncData) (ps ks : List Str) (g : List Value → List Value → List Value) (gV : List V → List V → List V) : Prop where
  to : ∀ (s : Shared) (us ws : List Value), K.In s.heap → (g us ws).length = ps.length → BindsTo s fd ⟨us, ks.zip ws⟩ (ps.zip (g us ws))
  rel : ∀ {vs : List V} {us : List Value} {zs : List V} {ws : List Value}, Vals vs us → Vals zs ws → Vals (gV vs zs) (g us ws)
variable {g : List Value → List Value → List Value} {gV : List V → List V → List V}
end

structure FnScope (N P : List Str) (sc : Scope) : Prop where
  kind : sc.kind = .function
  co : sc.isCoroutine = false
  gen : sc.isGenerator = false
  nd : N.Nodup
  pre : N.take P.length = P
  par : ∀ x ∈ P, sc.names.lookup x = some .local ∨ sc.names.lookup x = some .cell
  nofree : ∀ y ∈ sc.names, y.2 ≠ .free

theorem bindL_out {kindOf : Str → Option NameKind} {x : Str} : ∀ {binds : List (Str × Value)} {m : Str → Option Value}, (∀ v, (x, v) ∉ binds) → bindL kindOf binds m x = m x
  | [], _, _ => rfl
  | (n, v) :: r, m, h => by
    unfold bindL
    rw [bindL_out fun w hw => h w (List.mem_cons_of_mem _ hw)]
    split
    · have : x ≠ n := by rintro rfl; exact h v List.mem_cons_self
      simp [this]
    · rfl
theorem bindC_out {kindOf : Str → Option NameKind} {x : Str} : ∀ {binds : List (Str × Value)} {m : Str → Option Value}, (∀ v, (x, v) ∉ binds) → bindC kindOf binds m x = m x
  | [], _, _ => rfl
  | (n, v) :: r, m, h => by
    unfold bindC
    rw [bindC_out fun w hw => h w (List.mem_cons_of_mem _ hw)]
    split
    · rfl
    · have : x ≠ n := by rintro rfl; exact h v List.mem_cons_self
      simp [this]
theorem bindL_get {kindOf : Str → Option NameKind} {x : Str} {v : Value} : ∀ {P : List Str} {vs : List Value} {i : Nat} {m : Str → Option Value}, P.Nodup → P[i]? = some x → vs[i]? = some v → kindOf x = some .local →
    bindL kindOf (P.zip vs) m x = some v
  | [], _, _, _, _, h, _, _ => by simp at h
  | _ :: _, [], _, _, _, _, h, _ => by simp at h
  | p :: P, w :: vs, 0, m, nd, h1, h2, hk => by
    simp at h1 h2; subst h1; subst h2
    show bindL kindOf ((p, w) :: P.zip vs) m p = _
    unfold bindL
    rw [bindL_out fun v hv => (List.nodup_cons.mp nd).1 (List.of_mem_zip hv).1, if_pos hk]
    simp
  | p :: P, w :: vs, i + 1, m, nd, h1, h2, hk => by
    show bindL kindOf ((p, w) :: P.zip vs) m x = _
    unfold bindL
    exact bindL_get (i := i) (List.nodup_cons.mp nd).2 (by simpa using h1) (by simpa using h2) hk
theorem bindC_get {kindOf : Str → Option NameKind} {x : Str} {v : Value} : ∀ {P : List Str} {vs : List Value} {i : Nat} {m : Str → Option Value}, P.Nodup → P[i]? = some x → vs[i]? = some v → kindOf x ≠ some .local →
    bindC kindOf (P.zip vs) m x = some v
  | [], _, _, _, _, h, _, _ => by simp at h
  | _ :: _, [], _, _, _, _, h, _ => by simp at h
  | p :: P, w :: vs, 0, m, nd, h1, h2, hk => by
    simp at h1 h2; subst h1; subst h2
    show bindC kindOf ((p, w) :: P.zip vs) m p = _
    unfold bindC
    rw [bindC_out fun v hv => (List.nodup_cons.mp nd).1 (List.of_mem_zip hv).1, if_neg hk]
    simp
  | p :: P, w :: vs, i + 1, m, nd, h1, h2, hk => by
    show bindC kindOf ((p, w) :: P.zip vs) m x = _
    unfold bindC
    exact bindC_get (i := i) (List.nodup_cons.mp nd).2 (by simpa using h1) (by simpa using h2) hk

noncomputable def start (N : List Str) (vs : List V) : St := vs.map some ++ List.replicate (N.length - vs.length) none

noncomputable def cxOf (CX : CXT) (P : Program) (w : World) (K : PySem.W.Frag) (mg : Str → Option Value) (base : Heap) (N : List Str) (qual : Str) (scope : Scope) (f : Addr) (cd : Value) (A : Around) (outer : List Env) (s : Shared) (H : Hp) (E : XK) : Cx where
  prog := P
  w := w
  K := K
  mg := mg
  base := base
  A := A.deeper (envOfC qual scope s.heap.objs.size f cd)
  N := N
  s₀ := s
  H₀ := H
  env := envOfC qual scope s.heap.objs.size f cd
  outer := outer
  stack := envOfC qual scope s.heap.objs.size f cd :: outer
  ex := []
  calm := true
  fn := fun _ => true
  pn := []
  xe := fun e s' => wpAny (model P w) (A.deeper (envOfC qual scope s.heap.objs.size f cd)) (leaving (envOfC qual scope s.heap.objs.size f cd) e) (fun _ s'' => CX outer H s E e s'') (fun e' s'' => CX outer H s E e' s'') s'

theorem cell_has {sc : Scope} {n : Nat} {x : Str} (h : sc.names.lookup x = some .cell) : ∃ c, (cellsFrom n sc.names []).lookup x = some c := by
  have q := PySem.W.cellsFrom_some sc.names n [] (.inl h)
  exact Option.isSome_iff_exists.mp q

theorem inv_start {CX : CXT} {P : Program} {w : World} {K : PySem.W.Frag} {mg : Str → Option Value} {base : Heap} {N ps : List Str} {qual : Str} {scope : Scope} {f : Addr} {cd : Value} {A : Around} {outer : List Env} {s s1 : Shared} {H : Hp} {E : XK} {us : List Value} {vs : List V}
    (S : FnScope N ps scope) (hd : A.handled = none) (e0 : Env0 P w K mg base A outer s H) (hl : vs.length = ps.length) (r : Vals vs us)
    (x : InCallC s s.heap.objs.size (bindL (envOfC qual scope s.heap.objs.size f cd).kindOf (ps.zip us) fun _ => none) (cellsFrom (s.heap.objs.size + 1) scope.names []) (bindC (envOfC qual scope s.heap.objs.size f cd).kindOf (ps.zip us) fun _ => none) s1) :
    Inv (cxOf CX P w K mg base N qual scope f cd A outer s H E) [] (start N vs) H s1 := by
  have hpl : ps.length ≤ N.length := by have := congrArg List.length S.pre; rw [List.length_take] at this; omega
  obtain ⟨h1, tk, rfl, hk⟩ := x.done
  have noA : ∀ b : Addr, b ∉ (cxOf CX P w K mg base N qual scope f cd A outer s H E).ex := fun b z => absurd (show b ∈ ([] : List Addr) from z) (by simp)
  refine ⟨⟨e0.mod, S.kind, rfl, rfl, Nat.le_refl _, fun y z c h1 h2 => ?_, fun y hy => ?_, fun y c _ h => ?_, fun _ => hd, Around.frames_deeper e0.frames, .inr ⟨rfl, rfl⟩, fun b z => absurd z (noA b), e0.bs, e0.bsz, fun b _ _ => noA b, fun b z => absurd z (noA b), e0.funs, e0.frf⟩,
    rfl, e0.bare, Un.kept hk, ⟨_, x.toInCall.ns, fun i y v h1 h2 h3 => ?_⟩, fun y c h => ⟨_, x.cell y c h⟩, e0.hok.fresh (Nat.le_refl _), fun y c h => ?_, fun p hp => absurd (show p ∈ ([] : List (Addr × Obj)) from hp) (by simp), e0.hok.kept hk, ?_⟩
  · exact name_of_addr x.apart (PySem.mem_of_lookup h1) (PySem.mem_of_lookup h2)
  · have hy : scope.names.lookup y = some .cell ∨ scope.names.lookup y = some .free := hy
    rcases hy with hy | hy
    · exact cell_has hy
    · exact absurd rfl (S.nofree _ (PySem.mem_of_lookup hy))
  · exact Nat.le_of_lt (x.above y c (PySem.mem_of_lookup h))
  · have hi : i < vs.length := by
      unfold start at h2
      by_cases hi : i < vs.length
      · exact hi
      · rw [List.getElem?_append_right (by simpa using hi)] at h2
        rw [List.getElem?_replicate] at h2
        split at h2 <;> cases h2
    have ha : vs[i]? = some v := by
      unfold start at h2
      rw [List.getElem?_append_left (by simpa using hi), List.getElem?_map] at h2
      cases e : vs[i]? with
      | none => rw [e] at h2; cases h2
      | some a => rw [e] at h2; cases h2; rfl
    obtain ⟨u, hu, rv⟩ := r.get ha
    have hp : ps[i]? = some y := by
      rw [← S.pre, List.getElem?_take_of_lt (by omega)]; exact h1
    have ndP : ps.Nodup := by rw [← S.pre]; exact S.nd.sublist (List.take_sublist _ _)
    refine ⟨u, rv, ?_⟩
    rcases S.par y (List.mem_of_getElem? hp) with k | k
    · exact .inl ⟨k, bindL_get ndP hp hu k⟩
    · obtain ⟨c, e⟩ := cell_has (n := s.heap.objs.size + 1) k
      refine .inr ⟨.inl k, c, e, ?_⟩
      have q := x.cell y c e
      rw [bindC_get ndP hp hu (by show scope.names.lookup y ≠ _; rw [k]; decide)] at q
      exact q
  · exact e0.hok.fresh (Nat.le_of_lt (x.above y c (PySem.mem_of_lookup h)))
  · unfold start
    show _ = N.length
    rw [List.length_append, List.length_map, List.length_replicate]
    omega

theorem fn_of {CX : CXT} {P : Program} {w : World} {K : PySem.W.Frag} {mg : Str → Option Value} {base : Heap} {k : Nat} {f : Addr} {name qual : Str} {params : Arguments} {body : List Stmt} {scope : Scope} {dV kV doc pm cdv ct oc : Value} {an od : Option Addr}
    {osl : Array (Option Value)} {N ps : List Str} {sp : Sp} (lk : K.lookup f = some ⟨oc, od, .func (PySem.W.fnOf name qual params body scope dV kV doc pm an cdv ct), osl⟩) (hcd : PySem.W.codeIn K cdv qual = true) (S : FnScope N ps scope)
    (len : ∀ vs H Q E, sp vs H Q E → vs.length = ps.length)
    (hbody : ∀ (A : Around) (outer : List Env) (s : Shared) (H : Hp) (vs : List V) (Q : VK) (E : XK), Room k (A.deeper (envOfC qual scope s.heap.objs.size f cdv)) → sp vs H Q E →
      ∃ t, PSs (cxOf CX P w K mg base N qual scope f cdv A outer s H E) body t ∧ t { nx := fun _ H' => Q .non H', rt := Q } (start N vs) H) :
    FnOk P w K mg base CX (k + 1) f (PySem.W.fnOf name qual params body scope dV kV doc pm an cdv ct) ps sp := by
  refine ⟨len, fun A outer s H args us vs Q E hr e0 hb r hsp => ?_⟩
  have hl := len _ _ _ _ hsp
  have KX : K.In s.heap := e0.mod.kin.keeps fun b o e => (e0.bs b o e).1
  have lim : s.heap.NoLimit := e0.mod.nolimit.keeps fun b o e => (e0.bs b o e).1
  have hkind : ∀ y ∈ ps.zip us, scope.names.lookup y.1 = some .local ∨ (scope.names.lookup y.1 = some .cell ∧ ((cellsFrom (s.heap.objs.size + 1) scope.names []).lookup y.1).isSome = true) := fun ⟨n, v⟩ hy => by
    rcases S.par n (List.of_mem_zip hy).1 with q | q
    · exact .inl q
    · exact .inr ⟨q, PySem.W.cellsFrom_some _ _ _ (.inl q)⟩
  refine codeAny_call_function hr.depth (KX _ _ lk) rfl S.co S.gen rfl (PySem.W.codeRec_of KX hcd) (hb _ _ _ _ ?_)
  refine wpAny_newFunctionEnv_cells S.kind hkind fun env he s1 x => ?_
  subst he
  refine ⟨lim.keeps x.toInCall.keep, codeAny_func ?_⟩
  obtain ⟨t, ht, hq⟩ := hbody A outer s H vs Q E (hr.deeper _) hsp
  have I : Inv (cxOf CX P w K mg base N qual scope f cdv A outer s H E) [] (start N vs) H s1 := inv_start S hr.hd e0 hl r x
  refine wpAny_mono (ht [] s1 (start N vs) H _ I hq) (fun fl s' hs => ?_) fun e s' hs => hs
  have fin : ∀ {σ' : St} {H' : Hp} {v : V} {u : Value}, Inv (cxOf CX P w K mg base N qual scope f cdv A outer s H E) [] σ' H' s' → RelV v u → Q v H' → CE outer P w H s Q u s' :=
    fun {σ' H' v u} J rv q => ⟨v, H', J.os, J.bare, J.base, J.hok, rv, q⟩
  cases fl with
  | ret u =>
    obtain ⟨v, σ', H', J, rv, q⟩ := hs
    exact fin J rv q
  | next =>
    obtain ⟨σ', H', J, q⟩ := hs
    exact fin (v := V.non) (u := Value.none) J rfl q
  | brk =>
    obtain ⟨_, _, _, q⟩ := hs
    exact False.elim q
  | cont =>
    obtain ⟨_, _, _, q⟩ := hs
    exact False.elim q
end L2

namespace L2
open PySem PySem.Spec PyProof.Rows
section
variable {X : Cx} {x : Str} {p pos : Pos} {e : Expr} {es : List Expr} {t : TA} {id T : String} {r : List V → Hp → VK → Prop}

noncomputable def tCB (r : List V → Hp → VK → Prop) (t : TA) : TE := fun σ H Q => t σ H fun vs H1 => r vs H1 Q
theorem pe_callB (hc : CallR X (.builtin id) r) (hg : Gl X x) (hm : X.mg x = none) (hv : bootBuiltins x = some (.builtin id)) (ha : PA X (e :: es) t) (hn : x ≠ "__name__" := by decide) (hdb : (x == ("__debug__" : Str)) = false := by decide)
    (he : starEach (e :: es) X.env = (false, eval e X.env) :: starEach es X.env := by rfl) (hpl : (backTo pos (starEach es X.env)).any (·.1) = false := by rfl) : PE X (.Call (.Name x p) (e :: es) [] pos) (tCB r t) := by
  intro pins s σ H Q I h
  refine wpAny_Call_Name_kw (ld_blt I hg hm hv ?_ hn hdb)
  exact PyProof.Rows.callWith_builtin1 (thn (ha pos pins s σ H _ I h) fun us s1 ⟨vs, H1, I1, r1, q1⟩ => hc pins s1 σ H1 vs us Q I1 r1 q1) he hpl
theorem pe_callTy (hc : CallR X (.type T) r) (hg : Gl X x) (hm : X.mg x = none) (hv : bootBuiltins x = some (.type T)) (ha : PA X (e :: es) t) (hn : x ≠ "__name__" := by decide) (hdb : (x == ("__debug__" : Str)) = false := by decide)
    (he : starEach (e :: es) X.env = (false, eval e X.env) :: starEach es X.env := by rfl) (hpl : (backTo pos (starEach es X.env)).any (·.1) = false := by rfl) : PE X (.Call (.Name x p) (e :: es) [] pos) (tCB r t) := by
  intro pins s σ H Q I h
  refine wpAny_Call_Name_kw (ld_blt I hg hm hv ?_ hn hdb)
  exact PyProof.Rows.callWith_type1 (thn (ha pos pins s σ H _ I h) fun us s1 ⟨vs, H1, I1, r1, q1⟩ => hc pins s1 σ H1 vs us Q I1 r1 q1) he hpl
end
end L2

namespace HT
open PySem PyProof.Rows

noncomputable def lexLt : List Int → List Int → Bool
  | [], [] => false
  | [], _ :: _ => true
  | _ :: _, [] => false
  | x :: xs, y :: ys => if x = y then lexLt xs ys else decide (x < y)
theorem lexLt_cons (x y : Int) (xs ys : List Int) : lexLt (x :: xs) (y :: ys) = if x = y then lexLt xs ys else decide (x < y) := rfl
section
open PySem.SeqAt
open PySem.AutoSeq1 (wpAny_loadPart')
open PySem.MeetsSeq PySem.MeetsSeq2 PySem.MeetsSeq3

end

section
variable {prog : Program} {w : World} {A : Around} {E : Value → Shared → Prop} {s : Shared}

theorem cat_tup {t b : Addr} {vs ws : List Value} {Q : Value → Shared → Prop} (ht : IsTup s.heap t vs.toArray) (hb : IsTup s.heap b ws.toArray) (hv : vs ≠ [])
    (h1 : ws = [] → Q (.ref t) s) (h2 : ws ≠ [] → Q (.ref s.heap.objs.size) { s with heap := s.heap.push { cls := .type "tuple", data := .seq (vs ++ ws).toArray } })
    (hsz : vs.length + ws.length ≤ sizeLine) : wpAny (model prog w) A (binaryOp .Add (.ref t) (.ref b)) Q E s := by
  obtain ⟨⟨cls, dd, data, sl⟩, ho, hc, n, hd⟩ := id ht
  obtain ⟨⟨cls2, dd2, data2, sl2⟩, ho2, hc2, n2, hd2⟩ := id hb
  simp only at hc hd hc2 hd2
  subst hc hd hc2 hd2
  have e : vs.toArray ++ ws.toArray = (vs ++ ws).toArray := by simp
  by_cases hw : ws = []
  · exact concat_meets ⟨_, ho, rfl⟩ ⟨_, ho2, rfl⟩ noFill_tuple_add seq_tuple_add PySem.F.slot_tuple_add PySem.F.entry_tuple_add (PySem.F.args_tuple_add_2 _ _)
      (tuple_addW1 t b vs.toArray ws.toArray n n2 dd dd2 sl sl2 (by simpa using hv) (by simp [hw])) ⟨ho, ho2, h1 hw⟩
  · refine concat_meets ⟨_, ho, rfl⟩ ⟨_, ho2, rfl⟩ noFill_tuple_add seq_tuple_add PySem.F.slot_tuple_add PySem.F.entry_tuple_add (PySem.F.args_tuple_add_2 _ _)
      (tuple_addW2 t b vs.toArray ws.toArray n n2 dd dd2 sl sl2 (by simpa using hv) (by simpa using hw) (by rw [List.size_toArray, List.size_toArray]; exact hsz)) ⟨ho, ho2, ?_⟩
    rw [e]
    exact h2 hw

noncomputable def sIx (n d : Nat) : Option Int → Nat
  | none => d
  | some v => if v < 0 then (v + (n : Int)).toNat else min v.toNat n
theorem sIx_none (n d : Nat) : sIx n d none = d := rfl
theorem sIx_nat (n d k : Nat) : sIx n d (some (k : Int)) = min k n := by
  show (if (k : Int) < 0 then ((k : Int) + (n : Int)).toNat else min (k : Int).toNat n) = min k n
  rw [if_neg (by omega), Int.toNat_natCast]
theorem sIx_le (n d : Nat) (hd : d ≤ n) (o : Option Int) : sIx n d o ≤ n := by
  cases o with
  | none => exact hd
  | some v =>
    show (if v < 0 then (v + (n : Int)).toNat else min v.toNat n) ≤ n
    by_cases hv : v < 0
    · rw [if_pos hv]; omega
    · rw [if_neg hv]; exact Nat.min_le_right _ _
theorem clip_eq (v : Int) (n d : Nat) : (if v < 0 then max (v + (n : Int)) 0 else min v (n : Int)) = ((sIx n d (some v) : Nat) : Int) := by
  show (if v < 0 then max (v + (n : Int)) 0 else min v (n : Int)) = (((if v < 0 then (v + (n : Int)).toNat else min v.toNat n) : Nat) : Int)
  by_cases hv : v < 0
  · simp only [if_pos hv]; omega
  · simp only [if_neg hv]; omega
theorem adjust_gen (lo hi : Option Int) (n : Nat) : Builtin.Slice.sliceAdjust lo hi 1 (n : Int) = (((sIx n 0 lo : Nat) : Int), ((sIx n n hi : Nat) : Int)) := by
  have h1 : ¬ ((1 : Int) < 0) := by omega
  unfold Builtin.Slice.sliceAdjust
  simp only [h1, if_false]
  refine Prod.ext ?_ ?_
  · cases lo with
    | none => rfl
    | some v => exact clip_eq v n 0
  · cases hi with
    | none => rfl
    | some v => exact clip_eq v n n
theorem places_gen (i j : Nat) : Builtin.Slice.slicePlaces (i : Int) (j : Int) 1 = j - i := by
  unfold Builtin.Slice.slicePlaces
  have h1 : (1 : Int) > 0 := by omega
  simp only [h1, if_true, Int.ediv_one]
  split <;> omega
theorem slicePart_ {v : Value} {o : Option Int} {Q : Option Int → Shared → Prop} (p : IsPart v o) (h : Q o s) : wpAny (model prog w) A (Builtin.Slice.slicePartIndex v) Q E s := by
  cases p with
  | none => exact slicePart_none h
  | int i t => exact slicePart_int h
theorem sliceApplied_gen {sl : Addr} {vl vu : Value} {lo hi : Option Int} {n : Nat} {Q : Int × Int × Nat → Shared → Prop} (hs : s.heap.IsSliceOf sl vl vu .none) (pl : IsPart vl lo) (pu : IsPart vu hi)
    (h : Q (((sIx n 0 lo : Nat) : Int), 1, sIx n n hi - sIx n 0 lo) s) : wpAny (model prog w) A (Builtin.Slice.sliceApplied (.ref sl) (pure (n : Int))) Q E s := by
  obtain ⟨os, hos, hcs, hds⟩ := id hs
  unfold Builtin.Slice.sliceApplied Builtin.Slice.sliceFields
  refine wpAny_bind (wpAny_bind (wpAny_field hos hds (x := vl) rfl (wpAny_bind (wpAny_field hos hds (x := vu) rfl (wpAny_bind (wpAny_field hos hds (x := .none) rfl (wpAny_pure ?_)))))))
  refine wpAny_bind (slicePart_none ?_)
  show wpAny _ _ (if ((1 : Int) == 0) = true then _ else _) _ _ s
  rw [if_neg (by decide)]
  refine wpAny_bind (slicePart_ pl (wpAny_bind (slicePart_ pu (wpAny_bind (wpAny_pure ?_)))))
  show wpAny _ _ (match Builtin.Slice.sliceAdjust lo hi 1 (n : Int) with | (lo, hi) => pure (lo, (1 : Int), Builtin.Slice.slicePlaces lo hi 1)) _ _ s
  rw [adjust_gen lo hi n]
  show wpAny _ _ (pure (((sIx n 0 lo : Nat) : Int), (1 : Int), Builtin.Slice.slicePlaces ((sIx n 0 lo : Nat) : Int) ((sIx n n hi : Nat) : Int) 1)) _ _ s
  rw [places_gen]
  exact wpAny_pure h
theorem pick_gen (xs : Array Value) (i k : Nat) : ((List.range k).filterMap fun (m : Nat) => xs[((i : Int) + (m : Int) * 1).toNat]?).toArray = ((xs.toList.drop i).take k).toArray := by
  have e : (fun (m : Nat) => xs[((i : Int) + (m : Int) * 1).toNat]?) = fun m => xs[i + m]? := by
    funext m
    have : ((i : Int) + (m : Int) * 1).toNat = i + m := by omega
    rw [this]
  rw [e]
  have := pick_run xs i k
  rw [List.filterMap_map] at this
  have e2 : ((fun x => xs[x]?) ∘ fun x => i + x) = fun m => xs[i + m]? := rfl
  rw [e2] at this
  rw [this]

theorem getItem_tuple_cut {t sl : Addr} {items : Array Value} {vl vu : Value} {lo hi : Option Int} {Q : Value → Shared → Prop} (ht : IsTup s.heap t items) (hs : s.heap.IsSliceOf sl vl vu .none) (pl : IsPart vl lo) (pu : IsPart vu hi)
    (hw : ¬ (sIx items.size 0 lo = 0 ∧ sIx items.size items.size hi = items.size))
    (h : Q (.ref s.heap.objs.size) { s with heap := s.heap.push { cls := .type "tuple", data := .seq ((items.toList.drop (sIx items.size 0 lo)).take (sIx items.size items.size hi - sIx items.size 0 lo)).toArray } })
    (hsz : items.size ≤ sizeLine) : wpAny (model prog w) A (getItem (.ref t) (.ref sl)) Q E s := by
  have htake : sizeOk (.seq ((items.toList.drop (sIx items.size 0 lo)).take (sIx items.size items.size hi - sIx items.size 0 lo)).toArray) := by
    show ((items.toList.drop (sIx items.size 0 lo)).take (sIx items.size items.size hi - sIx items.size 0 lo)).toArray.size ≤ sizeLine
    rw [List.size_toArray, List.length_take, List.length_drop, Array.length_toList]
    omega
  have hj : sIx items.size items.size hi ≤ items.size := sIx_le _ _ (Nat.le_refl _) hi
  obtain ⟨os, hos, hcs, hds⟩ := id hs
  have hTs : s.TypeIs (.ref sl) "slice" := ⟨os, hos, hcs⟩
  unfold getItem
  try with_reducible refine wpAny_holding ?_
  first | refine wpAny_bind (wpAny_pure ?_) | skip
  refine wpAny_bind (wpAny_sequenceKey ht.typeIs (by decide) ?_)
  refine wpAny_bind (wpAny_callSpecial?_slot (name := Str.ofString "__getitem__") ht.typeIs PyProof.Rows.slot_tuple_getitem
    (wpAny_call_entry PyProof.Rows.slot_tuple_getitem ht.typeIs entry_tuple_getitem ?_ (args_tuple_getitem _ _)))
  show wpAny _ _ (Builtin.Tuple.tupleItemsOf (.ref t) >>= _) _ _ s
  refine wpAny_bind (tupleItemsOf_ ht ?_)
  refine wpAny_bind (wpAny_typeOf hTs ?_)
  rw [if_pos (by decide)]
  refine wpAny_bind (sliceApplied_gen hs pl pu ?_)
  have hno : ¬ ((((sIx items.size 0 lo : Nat) : Int) == 0 && (1 : Int) == 1 && (sIx items.size items.size hi - sIx items.size 0 lo) == items.size) = true) := by
    intro q
    rw [Bool.and_eq_true, Bool.and_eq_true] at q
    have q1 : ((sIx items.size 0 lo : Nat) : Int) = 0 := eq_of_beq q.1.1
    have q2 : sIx items.size items.size hi - sIx items.size 0 lo = items.size := eq_of_beq q.2
    exact hw ⟨by omega, by omega⟩
  show wpAny _ _ (if (((sIx items.size 0 lo : Nat) : Int) == 0 && (1 : Int) == 1 && (sIx items.size items.size hi - sIx items.size 0 lo) == items.size) = true then _ else _) _ _ s
  rw [if_neg hno, pick_gen]
  first
    | exact wpAny_bind (m := Builtin.Tuple.tupleExact _) (wpAny_newObj_type (wpAny_pure ⟨_, rfl, wpAny_pure h⟩) htake)
    | exact wpAny_bind (m := Builtin.Tuple.tupleExact _) (wpAny_newObj_type (wpAny_bind (wpAny_pure (wpAny_pure ⟨_, rfl, wpAny_pure h⟩))) htake)
    | exact wpAny_bind (wpAny_bind (m := Builtin.Tuple.tupleExact _) (wpAny_newObj_type (wpAny_pure (wpAny_pure ⟨_, rfl, wpAny_pure h⟩)) htake))
    | exact wpAny_bind (wpAny_bind (m := Builtin.Tuple.tupleExact _) (wpAny_newObj_type (wpAny_pure ⟨_, rfl, wpAny_pure h⟩) htake))
end
end HT

namespace L2
open PySem PySem.Spec PyProof.Rows

noncomputable abbrev TO := St → Hp → (Option Int → Hp → Prop) → Prop
noncomputable def PO (X : Cx) (e : Option Expr) (t : TO) : Prop :=
  ∀ (pins : List (Addr × Obj)) (s : Shared) (σ : St) (H : Hp) (Q : Option Int → Hp → Prop), Inv X pins σ H s → t σ H Q →
    wpAny (model X.prog X.w) X.A (evalPart e X.env) (fun u s' => ∃ o H', Inv X pins σ H' s' ∧ IsPart u o ∧ Q o H') X.xe s
noncomputable def tNoPart : TO := fun _ H Q => Q none H
noncomputable def tPart (t : TE) : TO := fun σ H Q => t σ H fun x H1 => ∃ i, x = .int i ∧ Q (some i) H1

section
variable {X : Cx} {e : Expr} {te : TE} {lo hi : Option Expr} {tl th : TO} {pos p2 : Pos}

theorem po_none : PO X none tNoPart := by
  intro pins s σ H Q I h
  rw [evalPart_none]
  exact wpAny_pure ⟨none, H, I, .none, h⟩
theorem po_some (h : PE X e te) : PO X (some e) (tPart te) := by
  intro pins s σ H Q I hw
  rw [evalPart_some]
  refine thn (h pins s σ H _ I hw) fun u s1 ⟨x, H1, I1, r1, q1⟩ => ?_
  obtain ⟨i, rfl, q⟩ := q1
  obtain ⟨t, rfl⟩ := r1
  exact ⟨some i, H1, I1, .int i t, q⟩

noncomputable def SlR (X : Cx) (r : V → Option Int → Option Int → Hp → VK → Prop) : Prop :=
  ∀ (pins : List (Addr × Obj)) (s : Shared) (σ : St) (H : Hp) (x : V) (v vl vu : Value) (lo hi : Option Int) (sl : Addr) (Q : VK), Inv X pins σ H s → RelV x v → s.heap.IsSliceOf sl vl vu .none → IsPart vl lo → IsPart vu hi → r x lo hi H Q →
    ∃ T id, typeLookup (.type T) "__getitem__" = pure (some (.builtin id)) ∧ s.TypeIs v T ∧ wpAny (model X.prog X.w) X.A (getItem v (.ref sl)) (EP X pins σ Q) X.xe s
theorem SlR.or {r r' : V → Option Int → Option Int → Hp → VK → Prop} (h : SlR X r) (h' : SlR X r') : SlR X (fun x lo hi H Q => r x lo hi H Q ∨ r' x lo hi H Q) := by
  intro pins s σ H x v vl vu lo hi sl Q I rx hs pl pu q
  rcases q with q | q
  · exact h pins s σ H x v vl vu lo hi sl Q I rx hs pl pu q
  · exact h' pins s σ H x v vl vu lo hi sl Q I rx hs pl pu q
noncomputable def tSl (r : V → Option Int → Option Int → Hp → VK → Prop) (te : TE) (tl th : TO) : TE := fun σ H Q => te σ H fun x H1 => tl σ H1 fun l H2 => th σ H2 fun u H3 => r x l u H3 Q
theorem pe_slice {r : V → Option Int → Option Int → Hp → VK → Prop} (hr : SlR X r) (he : PE X e te) (hl : PO X lo tl) (hu : PO X hi th) : PE X (.Subscript e (.Slice lo hi none p2) pos) (tSl r te tl th) := by
  intro pins s σ H Q I h
  refine Subscript_ (thn (he pins s σ H _ I h) fun v s1 ⟨x, H1, I1, r1, q1⟩ => ?_)
  refine wpAny_Slice (thn (hl pins s1 σ H1 _ I1 q1) fun vl s2 ⟨l, H2, I2, pl, q2⟩ => thn (hu pins s2 σ H2 _ I2 q2) fun vu s3 ⟨u, H3, I3, pu, q3⟩ => ?_)
  rw [evalPart_none]
  refine wpAny_pure ?_
  have I4 : Inv X pins σ H3 { s3 with heap := s3.heap.push { cls := .type "slice", data := .fields #[vl, vu, .none] } } := I3.kept (t' := s3.toks) fun b ob q => Heap.get?_push_of_some _ q
  obtain ⟨T, id, hT, ht, hg⟩ := hr pins { s3 with heap := s3.heap.push { cls := .type "slice", data := .fields #[vl, vu, .none] } } σ H3 x v vl vu l u s3.heap.objs.size Q I4 r1 (Heap.IsSliceOf.new ..) pl pu q3
  show wpAny (model X.prog X.w) X.A (subscriptTail e (.Slice lo hi none p2) v (.ref s3.heap.objs.size)) (EP X pins σ Q) X.xe { s3 with heap := s3.heap.push { cls := .type "slice", data := .fields #[vl, vu, .none] } }
  exact tail_any (ops := [.ref s3.heap.objs.size, v]) ht hT hg (by with_unfolding_all rfl)

noncomputable def cutV (xs : List V) (lo hi : Option Int) : List V := (xs.drop (HT.sIx xs.length 0 lo)).take (HT.sIx xs.length xs.length hi - HT.sIx xs.length 0 lo)
theorem cutV_length (xs : List V) (lo hi : Option Int) : (cutV xs lo hi).length ≤ xs.length := by
  unfold cutV
  rw [List.length_take, List.length_drop]
  omega
noncomputable def rSlT (K : PySem.W.Frag) : V → Option Int → Option Int → Hp → VK → Prop := fun x lo hi H Q => ∃ a xs, x = .ref a ∧ SqT K H a xs ∧
  ¬ (HT.sIx xs.length 0 lo = 0 ∧ HT.sIx xs.length xs.length hi = xs.length) ∧ ∀ p, H p = none → Q (.ref p) (upd H p (.tup (cutV xs lo hi)))
theorem sl_tup : SlR X (rSlT X.K) := by
  intro pins s σ H x v vl vu lo hi sl Q I rx hs pl pu h
  obtain ⟨a, xs, rfl, hx, hw, q⟩ := h
  cases rx
  obtain ⟨its, r, ht, hz⟩ := I.tuple hx
  have hlen : its.toArray.size = xs.length := by rw [List.size_toArray]; exact r.length.symm
  refine ⟨"tuple", _, PyProof.Rows.slot_tuple_getitem.lookup, ht.typeIs, ?_⟩
  refine HT.getItem_tuple_cut ht hs pl pu (by rw [hlen]; exact hw) ?_ (by rw [hlen]; exact hz)
  rw [hlen]
  refine ⟨.ref s.heap.objs.size, _, I.laid (t' := s.toks) (o := .tup (cutV xs lo hi)) (fun b ob q => Heap.get?_push_of_some _ q) (Nat.le_refl _) ?_, rfl, q _ (I.hok.fresh (Nat.le_refl _))⟩
  exact ⟨Nat.le_trans (cutV_length xs lo hi) hz, _, (r.drop (HT.sIx xs.length 0 lo)).take (HT.sIx xs.length xs.length hi - HT.sIx xs.length 0 lo), IsTup.new _ _⟩

noncomputable def rCatT (K : PySem.W.Frag) : R2 := fun x y H Q => ∃ a b xs ys, x = .ref a ∧ y = .ref b ∧ SqT K H a xs ∧ SqT K H b ys ∧ xs ≠ [] ∧ xs.length + ys.length ≤ sizeLine ∧
  (ys = [] → Q (.ref a) H) ∧ (ys ≠ [] → ∀ p, H p = none → Q (.ref p) (upd H p (.tup (xs ++ ys))))
theorem Vals.nil_iff {xs : List V} {us : List Value} (r : Vals xs us) : us = [] ↔ xs = [] := by
  cases r with
  | nil => simp
  | cons _ _ => simp
theorem op_catT : OpR X (binaryOp .Add) (rCatT X.K) := by
  intro pins s σ H x y v u Q I rx ry h
  obtain ⟨a, b, xs, ys, rfl, rfl, ha, hb, hx, hz, q1, q2⟩ := h
  cases rx
  cases ry
  obtain ⟨its, r1, p1, _⟩ := I.tuple ha
  obtain ⟨its2, r2, p2, _⟩ := I.tuple hb
  refine HT.cat_tup p1 p2 (fun z => hx (r1.nil_iff.mp z)) (fun z => ⟨.ref a, H, I, rfl, q1 (r2.nil_iff.mp z)⟩) (fun z => ?_) (by rw [← r1.length, ← r2.length]; exact hz)
  refine ⟨.ref s.heap.objs.size, _, I.laid (t' := s.toks) (o := .tup (xs ++ ys)) (fun b ob q => Heap.get?_push_of_some _ q) (Nat.le_refl _) ?_, rfl, q2 (fun w => z (r2.nil_iff.mpr w)) _ (I.hok.fresh (Nat.le_refl _))⟩
  exact ⟨by rw [List.length_append]; exact hz, _, r1.append r2, IsTup.new _ _⟩
end
end L2

namespace L2
open PySem PySem.Spec PyProof.Rows

noncomputable def ixN (n : Nat) (i : Int) : Option Nat := if 0 ≤ i then (if i < n then some i.toNat else none) else if -(n : Int) ≤ i then some (i + n).toNat else none
noncomputable def atI {α : Type} (xs : List α) (i : Int) : Option α := (ixN xs.length i).bind fun j => xs[j]?
theorem ixN_seq {n : Nat} {i : Int} {j : Nat} (h : ixN n i = some j) : seqIndex? i n = some j ∧ j < n ∧ -(n : Int) ≤ i ∧ i < n := by
  unfold ixN at h
  by_cases h0 : 0 ≤ i
  · rw [if_pos h0] at h
    by_cases h1 : i < n
    · rw [if_pos h1] at h
      have e : i.toNat = j := Option.some.inj h
      exact ⟨by rw [seqIndex_of h0 h1, e], by omega, by omega, h1⟩
    · rw [if_neg h1] at h; cases h
  · rw [if_neg h0] at h
    by_cases h1 : -(n : Int) ≤ i
    · rw [if_pos h1] at h
      have e : (i + n).toNat = j := Option.some.inj h
      exact ⟨by rw [seqIndex_neg (by omega) h1, e], by omega, h1, by omega⟩
    · rw [if_neg h1] at h; cases h
theorem atI_get {α : Type} {xs : List α} {i : Int} {v : α} (h : atI xs i = some v) : ∃ j, seqIndex? i xs.length = some j ∧ xs[j]? = some v ∧ j < xs.length ∧ -(xs.length : Int) ≤ i ∧ i < xs.length := by
  unfold atI at h
  cases e : ixN xs.length i with
  | none => rw [e] at h; cases h
  | some j =>
    rw [e] at h
    obtain ⟨h1, h2, h3, h4⟩ := ixN_seq e
    exact ⟨j, h1, h, h2, h3, h4⟩
noncomputable def PlainIx (b : Expr) : Prop := ∀ o i, subscripted b false o i = operate [o, i] (getItem o i)
noncomputable def IxR (X : Cx) (r : R2) : Prop :=
  ∀ (value slice : Expr) (pins : List (Addr × Obj)) (s : Shared) (σ : St) (H : Hp) (x y : V) (v u : Value) (Q : VK), Inv X pins σ H s → RelV x v → RelV y u → r x y H Q →
    subscripted slice false v u = operate [v, u] (getItem v u) → wpAny (model X.prog X.w) X.A (subscriptTail value slice v u) (EP X pins σ Q) X.xe s
noncomputable def MtR (X : Cx) (id : String) (r : V → List V → Hp → VK → Prop) : Prop :=
  ∀ (pins : List (Addr × Obj)) (s : Shared) (σ : St) (H : Hp) (x : V) (xs : List V) (v : Value) (us : List Value) (Q : VK), Inv X pins σ H s → RelV x v → Vals xs us → r x xs H Q →
    wpAny (model X.prog X.w) X.A (call (.builtin id) (v :: us)) (EP X pins σ Q) X.xe s
section
variable {X : Cx} {a b : Expr} {ta tb : TE} {pos : Pos}
theorem IxR.or {r r' : R2} (h : IxR X r) (h' : IxR X r') : IxR X (fun x y H Q => r x y H Q ∨ r' x y H Q) := by
  intro value slice pins s σ H x y v u Q I rx ry q hs
  rcases q with q | q
  · exact h value slice pins s σ H x y v u Q I rx ry q hs
  · exact h' value slice pins s σ H x y v u Q I rx ry q hs
theorem MtR.or {id : String} {r r' : V → List V → Hp → VK → Prop} (h : MtR X id r) (h' : MtR X id r') : MtR X id (fun x xs H Q => r x xs H Q ∨ r' x xs H Q) := by
  intro pins s σ H x xs v us Q I rx rs q
  rcases q with q | q
  · exact h pins s σ H x xs v us Q I rx rs q
  · exact h' pins s σ H x xs v us Q I rx rs q
theorem pe_ix {r : R2} (hr : IxR X r) (ha : PE X a ta) (hb : PE X b tb) (hs : PlainIx b) : PE X (.Subscript a b pos) (tOp r ta tb) := by
  intro pins s σ H Q I h
  exact Subscript_ (binT ha hb I h fun v u s2 x y H2 I2 rx ry q => hr a b pins s2 σ H2 x y v u Q I2 rx ry q (hs _ _))

noncomputable def rIxL (K : PySem.W.Frag) : R2 := fun x y H Q => ∃ p xs i v, x = .ref p ∧ y = .int i ∧ SqL K H p xs ∧ atI xs i = some v ∧ Q v H
noncomputable def rIxT (K : PySem.W.Frag) : R2 := fun x y H Q => ∃ p xs i v, x = .ref p ∧ y = .int i ∧ SqT K H p xs ∧ atI xs i = some v ∧ Q v H
theorem ix_list : IxR X (rIxL X.K) := by
  intro value slice pins s σ H x y v u Q I rx ry h hs
  obtain ⟨p, xs, i, z, rfl, rfl, hq, he, q⟩ := h
  cases rx
  obtain ⟨t, rfl⟩ := ry
  obtain ⟨its, r, pl, hz⟩ := I.list hq
  obtain ⟨j, h1, h2, h3, h4, h5⟩ := atI_get he
  obtain ⟨w, ew, rw'⟩ := r.get h2
  have hl := r.length
  have hn := line63
  have fin : EP X pins σ Q w s := ⟨z, H, I, rw', q⟩
  by_cases h0 : 0 ≤ i
  · have hj : i.toNat = j := by
      rw [seqIndex_of h0 h5] at h1
      exact Option.some.inj h1
    exact item_listR pl.isList h0 (by omega) (by rw [hj]; simpa using ew) fin hs
  · have hj : (i + (its.toArray.size : Int)).toNat = j := by
      rw [seqIndex_neg (by omega) h4] at h1
      rw [List.size_toArray, ← hl]
      exact Option.some.inj h1
    exact subscriptTail_builtinR (x := w) pl.isList.typeIs slot_list_getitem.lookup
      (wpAny_getItem_list_neg (Q := fun r s' => r = w ∧ EP X pins σ Q r s') pl.isList (by omega) (by rw [List.size_toArray] <;> omega) (by omega) (by rw [hj]; simpa using ew) ⟨rfl, fin⟩) hs
theorem ix_tup : IxR X (rIxT X.K) := by
  intro value slice pins s σ H x y v u Q I rx ry h hs
  obtain ⟨p, xs, i, z, rfl, rfl, hq, he, q⟩ := h
  cases rx
  obtain ⟨t, rfl⟩ := ry
  obtain ⟨its, r, pl, hz⟩ := I.tuple hq
  obtain ⟨j, h1, h2, h3, h4, h5⟩ := atI_get he
  obtain ⟨w, ew, rw'⟩ := r.get h2
  have hl := r.length
  have hn := line63
  have fin : EP X pins σ Q w s := ⟨z, H, I, rw', q⟩
  exact subscriptTail_builtinR (x := w) pl.typeIs slot_tuple_getitem.lookup
    (getItem_tuple (j := j) (Q := fun r s' => r = w ∧ EP X pins σ Q r s') pl (by omega) (by omega) (by rw [List.size_toArray, ← hl]; exact h1) (by simpa using ew) ⟨rfl, fin⟩) hs
theorem mapSeq_set (its : List Value) (n j : Nat) (u : Value) : Obj.mapSeq (·.setIfInBounds j u) { cls := .type "list", data := .seq its.toArray n } = { cls := .type "list", data := .seq (its.set j u).toArray n } := by
  simp [Obj.mapSeq]
theorem Inv.lst {pins : List (Addr × Obj)} {σ : St} {H : Hp} {s : Shared} {p : Addr} {xs : List V} (I : Inv X pins σ H s) (h : H p = some (.lst xs)) :
    ∃ (its : List Value) (n : Nat), Vals xs its ∧ s.heap.get? p = some { cls := .type "list", data := .seq its.toArray n } ∧ xs.length ≤ sizeLine := by
  obtain ⟨z, its, n, r, e⟩ := I.hok p _ h
  exact ⟨its, n, r, e, z⟩
theorem Inv.lstUpd {pins : List (Addr × Obj)} {σ : St} {H : Hp} {s : Shared} {p : Addr} {xs ys : List V} {its its' : List Value} {n n' : Nat} {f : Obj → Obj} (I : Inv X pins σ H s) (h : H p = some (.lst xs))
    (ho : s.heap.get? p = some { cls := .type "list", data := .seq its.toArray n }) (hf : f { cls := .type "list", data := .seq its.toArray n } = { cls := .type "list", data := .seq its'.toArray n' }) (r : Vals ys its') (hz : ys.length ≤ sizeLine) (t : Nat) :
    Inv X pins σ (upd H p (.lst ys)) { s with heap := s.heap.update p f, toks := t } := by
  have e : (s.heap.update p f).get? p = some { cls := .type "list", data := .seq its'.toArray n' } := by
    rw [Heap.get?_update_self f ho (by rw [hf] <;> rfl), hf]
  refine I.write (x := p) (e := p) (by rw [h]; trivial) (.inl rfl) (fun b u hb q => (Heap.get?_update_other _ _ (Ne.symm hb)).trans q) ⟨_, e⟩ ?_
  exact ⟨hz, its', n', r, e⟩
noncomputable def rSetL : V → V → V → Hp → (Hp → Prop) → Prop := fun o i v H Q => ∃ p xs k j, o = .ref p ∧ i = .int k ∧ H p = some (.lst xs) ∧ ixN xs.length k = some j ∧ Q (upd H p (.lst (xs.set j v)))
theorem set_list : PSet X rSetL := by
  intro pins s σ H o i v ov iv u Q I ro ri rv h
  obtain ⟨p, xs, k, j, rfl, rfl, hp, hj, q⟩ := h
  cases ro
  obtain ⟨t, rfl⟩ := ri
  obtain ⟨its, n, r, ho, hz⟩ := I.lst hp
  obtain ⟨h1, h2, h3, h4⟩ := ixN_seq hj
  have hl := r.length
  have hn := line63
  have I' : Inv X pins σ (upd H p (.lst (xs.set j v))) { s with heap := s.heap.update p (Obj.mapSeq (·.setIfInBounds j u)) } :=
    I.lstUpd hp ho (mapSeq_set its n j u) (r.set rv j) (by rw [List.length_set]; exact hz) s.toks
  by_cases h0 : 0 ≤ k
  · have hk : k.toNat = j := by
      rw [seqIndex_of h0 h4] at h1
      exact Option.some.inj h1
    exact PySem.W.ki_setAt ho h0 (by omega) (by rw [List.size_toArray, ← hl]; exact h4) (by rw [hk]; exact ⟨_, I', q⟩)
  · have hk : (k + (its.toArray.size : Int)).toNat = j := by
      rw [seqIndex_neg (by omega) h3] at h1
      rw [List.size_toArray, ← hl]
      exact Option.some.inj h1
    exact PySem.W.ki_setBack ho (by omega) (by rw [List.size_toArray, ← hl]; exact h3) (by omega) (by rw [hk]; exact ⟨_, I', q⟩)

theorem slice_bounds (lo hi : Option Int) (n : Nat) : (sliceBounds lo hi none n).1 = ((HT.sIx n 0 lo : Nat) : Int) ∧ (sliceBounds lo hi none n).2.1 = ((HT.sIx n n hi : Nat) : Int) ∧ (sliceBounds lo hi none n).2.2 = 1 := by
  refine ⟨?_, ?_, rfl⟩
  · cases lo with
    | none => simp [sliceBounds, HT.sIx]
    | some i =>
      simp only [sliceBounds, HT.sIx, Option.getD_none, show (1 : Int) > 0 by decide, if_true]
      by_cases h : i < 0
      · simp only [h, if_true] <;> omega
      · simp only [h, if_false] <;> omega
  · cases hi with
    | none => simp [sliceBounds, HT.sIx]
    | some i =>
      simp only [sliceBounds, HT.sIx, Option.getD_none, show (1 : Int) > 0 by decide, if_true]
      by_cases h : i < 0
      · simp only [h, if_true] <;> omega
      · simp only [h, if_false] <;> omega
theorem slicePick_cut (its : List Value) (lo hi : Option Int) : slicePick its.toArray lo hi none = ((its.drop (HT.sIx its.length 0 lo)).take (HT.sIx its.length its.length hi - HT.sIx its.length 0 lo)).toArray := by
  obtain ⟨h1, h2, h3⟩ := slice_bounds lo hi its.toArray.size
  unfold slicePick
  rw [h1, h2, h3]
  simp only [sliceRange_one, pick_run, List.size_toArray] <;> rfl
noncomputable def rSlL (K : PySem.W.Frag) : V → Option Int → Option Int → Hp → VK → Prop := fun x lo hi H Q => ∃ a xs, x = .ref a ∧ SqL K H a xs ∧ ∀ p, H p = none → Q (.ref p) (upd H p (.lst (cutV xs lo hi)))
theorem sl_list : SlR X (rSlL X.K) := by
  intro pins s σ H x v vl vu lo hi sl Q I rx hs pl pu h
  obtain ⟨a, xs, rfl, hx, q⟩ := h
  cases rx
  obtain ⟨its, r, ht, hz⟩ := I.list hx
  have hlen := r.length
  refine ⟨"list", _, slot_list_getitem.lookup, ht.isList.typeIs, ?_⟩
  refine wpAny_getItem_list_slice ht.isList hs pl pu .none (by simp) ?_ (by rw [List.size_toArray] <;> omega)
  rw [slicePick_cut, ← hlen]
  refine ⟨.ref s.heap.objs.size, _, I.laid (t' := s.toks) (o := .lst (cutV xs lo hi)) (fun b ob q => Heap.get?_push_of_some _ q) (Nat.le_refl _) ?_, rfl, q _ (I.hok.fresh (Nat.le_refl _))⟩
  exact ⟨Nat.le_trans (cutV_length xs lo hi) hz, _, 0, (r.drop (HT.sIx xs.length 0 lo)).take (HT.sIx xs.length xs.length hi - HT.sIx xs.length 0 lo), Heap.get?_push_size _ rfl⟩

noncomputable def flatV : V → Bool
  | .non => true
  | .bl _ => true
  | .int _ => true
  | .str _ => true
  | _ => false
noncomputable def eqV : V → V → Bool
  | .non, .non => true
  | .bl a, .bl b => a == b
  | .bl a, .int b => (if a then 1 else 0) == b
  | .int a, .bl b => a == (if b then 1 else 0)
  | .int a, .int b => a == b
  | .str a, .str b => a == b
  | _, _ => false
theorem eqAt_V {A : Around} {s : Shared} {y x : V} {u v : Value} (ry : RelV y u) (rx : RelV x v) (fy : flatV y = true) (fx : flatV x = true) : SeqAt.EqAt A s u v (eqV y x) := by
  cases y with
  | non =>
    cases ry
    cases x with
    | non => cases rx; exact SeqAt.EqAt.same _
    | bl b => cases rx; exact SeqAt.EqAt.none_bool b
    | int b => obtain ⟨t, rfl⟩ := rx; exact SeqAt.EqAt.none_int b t
    | str b => obtain ⟨t, rfl⟩ := rx; exact SeqAt.EqAt.none_str b t
    | _ => exact absurd (show false = true from fx) Bool.false_ne_true
  | bl a =>
    cases ry
    cases x with
    | non => cases rx; exact SeqAt.EqAt.bool_none a
    | bl b => cases rx; exact SeqAt.EqAt.bool_bool a b
    | int b => obtain ⟨t, rfl⟩ := rx; exact SeqAt.EqAt.bool_int a b t
    | str b => obtain ⟨t, rfl⟩ := rx; exact SeqAt.EqAt.bool_str a b t
    | _ => exact absurd (show false = true from fx) Bool.false_ne_true
  | int a =>
    obtain ⟨t', rfl⟩ := ry
    cases x with
    | non => cases rx; exact SeqAt.EqAt.int_none a t'
    | bl b => cases rx; exact SeqAt.EqAt.int_bool a t' b
    | int b => obtain ⟨t, rfl⟩ := rx; exact SeqAt.EqAt.int_int a t' b t
    | str b => obtain ⟨t, rfl⟩ := rx; exact SeqAt.EqAt.int_str a t' b t
    | _ => exact absurd (show false = true from fx) Bool.false_ne_true
  | str a =>
    obtain ⟨t', rfl⟩ := ry
    cases x with
    | non => cases rx; exact SeqAt.EqAt.str_none a t'
    | bl b => cases rx; exact SeqAt.EqAt.str_bool a t' b
    | int b => obtain ⟨t, rfl⟩ := rx; exact SeqAt.EqAt.str_int a t' b t
    | str b => obtain ⟨t, rfl⟩ := rx; exact SeqAt.EqAt.str_str a t' b t
    | _ => exact absurd (show false = true from fx) Bool.false_ne_true
  | _ => exact absurd (show false = true from fy) Bool.false_ne_true
noncomputable def eqU (x : V) (u : Value) : Bool := match u with
  | .none => eqV .non x
  | .bool b => eqV (.bl b) x
  | .int i _ => eqV (.int i) x
  | .str z _ => eqV (.str z) x
  | _ => false
theorem eqU_of {x y : V} {u : Value} (r : RelV y u) (f : flatV y = true) : eqU x u = eqV y x := by
  cases y with
  | non => cases r; rfl
  | bl b => cases r; rfl
  | int i => obtain ⟨t, rfl⟩ := r; rfl
  | str z => obtain ⟨t, rfl⟩ := r; rfl
  | _ => exact absurd (show false = true from f) Bool.false_ne_true
theorem any_eqU {x : V} : ∀ {xs : List V} {us : List Value}, Vals xs us → xs.all flatV = true → us.any (eqU x) = xs.any fun y => eqV y x
  | _, _, .nil, _ => rfl
  | y :: xs, u :: us, .cons r t, f => by
    rw [List.all_cons, Bool.and_eq_true] at f
    rw [List.any_cons, List.any_cons, eqU_of r f.1, any_eqU t f.2]
theorem mem_eqAt {A : Around} {s : Shared} {x : V} {v : Value} (rx : RelV x v) (fx : flatV x = true) : ∀ {xs : List V} {us : List Value}, Vals xs us → xs.all flatV = true → ∀ u ∈ us, SeqAt.EqAt A s u v (eqU x u)
  | _, _, .nil, _ => fun u hu => by cases hu
  | y :: xs, u :: us, .cons r t, f => fun u' hu => by
    rw [List.all_cons, Bool.and_eq_true] at f
    rcases List.mem_cons.mp hu with rfl | hu
    · rw [eqU_of r f.1]; exact eqAt_V r rx f.1 fx
    · exact mem_eqAt rx fx t f.2 u' hu
noncomputable def inV (x : V) (xs : List V) : Bool := xs.any fun y => eqV y x
noncomputable def rIn (K : PySem.W.Frag) (neg : Bool) : R2 := fun x y H Q => ∃ p xs, y = .ref p ∧ (SqL K H p xs ∨ SqT K H p xs) ∧ flatV x = true ∧ xs.all flatV = true ∧ Q (.bl (if neg then !inV x xs else inV x xs)) H
theorem op_in_seq : OpR X (compareOp .In) (rIn X.K false) := by
  intro pins s σ H x y v u Q I rx ry h
  obtain ⟨p, xs, rfl, hq, fx, fs, q⟩ := h
  cases ry
  rcases hq with hq | hq
  · obtain ⟨its, r, pl, hz⟩ := I.list hq
    refine SeqAt.in_listAt (eqU x) pl.isList (fun w hw => mem_eqAt rx fx r fs w (by simpa using hw)) ⟨.bl _, H, I, rfl, ?_⟩
    rw [show its.toArray.any (eqU x) = its.any (eqU x) by simp, any_eqU r fs]
    exact q
  · obtain ⟨its, r, pl, hz⟩ := I.tuple hq
    refine SeqAt.in_tupleAt (eqU x) pl (fun w hw => mem_eqAt rx fx r fs w (by simpa using hw)) ⟨.bl _, H, I, rfl, ?_⟩
    rw [show its.toArray.any (eqU x) = its.any (eqU x) by simp, any_eqU r fs]
    exact q
theorem op_notIn_seq : OpR X (compareOp .NotIn) (rIn X.K true) := by
  intro pins s σ H x y v u Q I rx ry h
  obtain ⟨p, xs, rfl, hq, fx, fs, q⟩ := h
  cases ry
  rcases hq with hq | hq
  · obtain ⟨its, r, pl, hz⟩ := I.list hq
    refine SeqAt.notIn_listAt (eqU x) pl.isList (fun w hw => mem_eqAt rx fx r fs w (by simpa using hw)) ⟨.bl _, H, I, rfl, ?_⟩
    rw [show its.toArray.any (eqU x) = its.any (eqU x) by simp, any_eqU r fs]
    exact q
  · obtain ⟨its, r, pl, hz⟩ := I.tuple hq
    refine SeqAt.notIn_tupleAt (eqU x) pl (fun w hw => mem_eqAt rx fx r fs w (by simpa using hw)) ⟨.bl _, H, I, rfl, ?_⟩
    rw [show its.toArray.any (eqU x) = its.any (eqU x) by simp, any_eqU r fs]
    exact q
theorem call_len_seq : CallR X (.builtin "len") (fun xs H Q => ∃ p ys, xs = [.ref p] ∧ (SqL X.K H p ys ∨ SqT X.K H p ys) ∧ Q (.int ys.length) H) := by
  intro pins s σ H xs us Q I r h
  obtain ⟨p, ys, rfl, hq, q⟩ := h
  obtain ⟨u, rfl, rx⟩ := vals1 r
  cases rx
  have hn := line63
  rcases hq with hq | hq
  · obtain ⟨its, r', pl, hz⟩ := I.list hq
    have hlen := r'.length
    exact Calls.call_len_list pl.isList (by simp only [List.size_toArray] <;> omega) ⟨.int ys.length, H, I.tok _, ⟨s.toks + 1, by rw [List.size_toArray, hlen]⟩, q⟩
  · obtain ⟨its, r', pl, hz⟩ := I.tuple hq
    have hlen := r'.length
    exact len_tuple pl (by simp only [List.size_toArray] <;> omega) ⟨.int ys.length, H, I.tok _, ⟨s.toks + 1, by rw [List.size_toArray, hlen]⟩, q⟩
theorem CallR.or {f : Value} {r r' : List V → Hp → VK → Prop} (h : CallR X f r) (h' : CallR X f r') : CallR X f (fun xs H Q => r xs H Q ∨ r' xs H Q) := by
  intro pins s σ H xs us Q I rs q
  rcases q with q | q
  · exact h pins s σ H xs us Q I rs q
  · exact h' pins s σ H xs us Q I rs q
theorem call_list_of : CallR X (.type "list") (fun xs H Q => ∃ p ys, xs = [.ref p] ∧ (SqL X.K H p ys ∨ SqT X.K H p ys) ∧ ∀ l, H l = none → Q (.ref l) (upd H l (.lst ys))) := by
  intro pins s σ H xs us Q I r h
  obtain ⟨p, ys, rfl, hq, q⟩ := h
  obtain ⟨u, rfl, rx⟩ := vals1 r
  cases rx
  have fin : ∀ (its : List Value), Vals ys its → ys.length ≤ sizeLine → ∀ (h' : Heap) (c' : Nat), (∀ b o', s.heap.get? b = some o' → h'.get? b = some o') →
      h'.get? s.heap.objs.size = some { cls := .type "list", dict := none, data := .seq its.toArray c', slots := #[] } → EP X pins σ Q (.ref s.heap.objs.size) { s with heap := h' } := fun its r' hz h' c' kp e =>
    ⟨.ref s.heap.objs.size, _, I.laid (t' := s.toks) kp (Nat.le_refl _) (show ObjOk X.prog X.w _ h' _ (.lst ys) from ⟨hz, its, c', r', e⟩), rfl, q _ (I.hok.fresh (Nat.le_refl _))⟩
  rcases hq with hq | hq
  · obtain ⟨its, r', pl, hz⟩ := I.list hq
    have hlen := r'.length
    obtain ⟨o, ho, hc, n, hd⟩ := pl.isList
    exact call_list_seq p (.inl rfl) ho hc hd (fun h' c' kp e => fin its r' hz h' c' kp e) (by simp only [List.size_toArray] <;> omega)
  · obtain ⟨its, r', pl, hz⟩ := I.tuple hq
    have hlen := r'.length
    obtain ⟨o, ho, hc, n, hd⟩ := pl
    exact call_list_seq p (.inr rfl) ho hc hd (fun h' c' kp e => fin its r' hz h' c' kp e) (by simp only [List.size_toArray] <;> omega)
theorem call_tuple_of : CallR X (.type "tuple") (fun xs H Q => ∃ p ys, xs = [.ref p] ∧ ((SqL X.K H p ys ∧ ∀ l, H l = none → Q (.ref l) (upd H l (.tup ys))) ∨ (SqT X.K H p ys ∧ Q (.ref p) H))) := by
  intro pins s σ H xs us Q I r h
  obtain ⟨p, ys, rfl, h⟩ := h
  obtain ⟨u, rfl, rx⟩ := vals1 r
  cases rx
  rcases h with ⟨hq, q⟩ | ⟨hq, q⟩
  · obtain ⟨its, r', pl, hz⟩ := I.list hq
    have hlen := r'.length
    refine call_tuple_list pl.isList (fun h' kp => ?_) (by simp only [List.size_toArray] <;> omega)
    have I1 : Inv X pins σ H { s with heap := h' } := I.kept (t' := s.toks) kp
    have I2 : Inv X pins σ (upd H h'.objs.size (.tup ys)) { s with heap := h'.push { cls := .type "tuple", data := .seq its.toArray } } :=
      I1.laid (t' := s.toks) (fun b o e => Heap.get?_push_of_some _ e) (Nat.le_refl _) (show ObjOk X.prog X.w _ _ _ (.tup ys) from ⟨hz, its, r', IsTup.new _ _⟩)
    exact ⟨.ref h'.objs.size, _, I2, rfl, q _ (I1.hok.fresh (Nat.le_refl _))⟩
  · obtain ⟨its, r', pl, hz⟩ := I.tuple hq
    exact call_tuple_same pl ⟨.ref p, H, I, rfl, q⟩

noncomputable def tyV (K : PySem.W.Frag) (T : String) (x : V) (H : Hp) : Prop := match x with
  | .str _ => T = "str"
  | .int _ => T = "int"
  | .ref p => (T = "list" ∧ ∃ xs, SqL K H p xs) ∨ (T = "tuple" ∧ ∃ o, K.lookup p = some o ∧ o.cls = .type "tuple" ∧ o.dict = none) ∨
      (T = "dict" ∧ ((∃ kvs, H p = some (.dK kvs)) ∨ ∃ kvs, H p = some (.dT kvs))) ∨ (T = "set" ∧ ∃ S n, H p = some (.set S n))
  | _ => False
theorem tyV_is {pins : List (Addr × Obj)} {σ : St} {H : Hp} {s : Shared} {T : String} {x : V} {v : Value} (I : Inv X pins σ H s) (r : RelV x v) (ty : tyV X.K T x H) :
    s.TypeIs v T ∧ ∀ a, v = .ref a → ∃ ob, s.heap.get? a = some ob ∧ ob.dict = none := by
  cases x with
  | str z =>
    obtain ⟨t, rfl⟩ := r
    cases (show T = "str" from ty)
    exact ⟨typeIs_str s z t, fun _ e => nomatch e⟩
  | int i =>
    obtain ⟨t, rfl⟩ := r
    cases (show T = "int" from ty)
    exact ⟨typeIs_int s i t, fun _ e => nomatch e⟩
  | ref p =>
    cases r
    rcases ty with ⟨rfl, xs, hq⟩ | ⟨rfl, o, hk, hc, hd⟩ | ⟨rfl, hk⟩ | ⟨rfl, S, n, hk⟩
    · obtain ⟨its, _, pl, _⟩ := I.list hq
      refine ⟨pl.isList.typeIs, fun a e => ?_⟩
      cases e
      obtain ⟨o, n, e, c, hd, _⟩ := pl
      exact ⟨o, e, hd⟩
    · refine ⟨⟨o, I.kIn p o hk, hc⟩, fun a e => ?_⟩
      cases e
      exact ⟨o, I.kIn _ o hk, hd⟩
    · have z : ∃ o, s.heap.get? p = some o ∧ o.ExactDict := by
        rcases hk with ⟨kvs, hk⟩ | ⟨kvs, hk⟩
        · obtain ⟨_, _, _, _, o, _, _, e, ex, _⟩ := I.hok p _ hk
          exact ⟨o, e, ex⟩
        · obtain ⟨_, _, _, _, o, _, _, e, ex, _⟩ := I.hok p _ hk
          exact ⟨o, e, ex⟩
      obtain ⟨o, e, ex⟩ := z
      refine ⟨⟨o, e, ex.1⟩, fun a e2 => ?_⟩
      cases e2
      exact ⟨o, e, ex.2.1⟩
    · obtain ⟨o, _, _, _, e, ex, _⟩ := I.hok p _ hk
      refine ⟨⟨o, e, ex.1⟩, fun a e2 => ?_⟩
      cases e2
      exact ⟨o, e, ex.2.1⟩
  | _ => exact False.elim ty
noncomputable def tBM0 (K : PySem.W.Frag) (T : String) (r : V → List V → Hp → VK → Prop) (to : TE) : TE := fun σ H Q => to σ H fun x H1 => tyV K T x H1 ∧ r x [] H1 Q
noncomputable def tBM (K : PySem.W.Frag) (T : String) (r : V → List V → Hp → VK → Prop) (to : TE) (t : TA) : TE := fun σ H Q => to σ H fun x H1 => tyV K T x H1 ∧ t σ H1 fun xs H2 => r x xs H2 Q
variable {o e : Expr} {es : List Expr} {to : TE} {t : TA} {name : Str} {apos cpos : Pos} {T id : String} {r : V → List V → Hp → VK → Prop}
theorem pe_bm0 (pa : PlainAttrs T) (slot : Slot T name id) (hty : typeOf (.builtin id) = pure (.type "method_descriptor")) (hm : MtR X id r) (ho : PE X o to)
    (hbase : attributeBase o name X.env (eval o X.env) = eval o X.env := by rfl) (hline : (apos.endLine == cpos.line) = true := by rfl) : PE X (.Call (.Attribute o name apos) [] [] cpos) (tBM0 X.K T r to) := by
  intro pins s σ H Q I h
  refine wpAny_Call_method0_late hbase hline (thn (ho pins s σ H _ I h) fun v s1 ⟨x, H1, I1, r1, ty, q1⟩ => ?_)
  obtain ⟨h1, h2⟩ := tyV_is I1 r1 ty
  exact ⟨T, id, pa, slot, hty, h1, h2, Calls.callWith_builtin rfl (PySem.evalArgs_none (hm pins s1 σ H1 x [] v [] Q I1 r1 .nil q1))⟩
theorem pe_bm (pa : PlainAttrs T) (slot : Slot T name id) (hty : typeOf (.builtin id) = pure (.type "method_descriptor")) (hm : MtR X id r) (ho : PE X o to) (ha : PA X (e :: es) t)
    (hbase : attributeBase o name X.env (eval o X.env) = eval o X.env := by rfl)
    (hfew : ((backTo cpos (starEach (e :: es) X.env)).all (fun x => !x.1) && (backToKw cpos (keywordEach [] X.env)).all (fun x => x.1.isSome)
      && decide ((e :: es).length + ([] : List Keyword).length + (if ([] : List Keyword).isEmpty then 0 else 1) < 30)) = true := by rfl)
    (hline : (apos.endLine == cpos.line) = true := by rfl) (hs : starEach (e :: es) X.env = (false, eval e X.env) :: starEach es X.env := by rfl) (hplain : (backTo cpos (starEach es X.env)).any (·.1) = false := by rfl) :
    PE X (.Call (.Attribute o name apos) (e :: es) [] cpos) (tBM X.K T r to t) := by
  intro pins s σ H Q I h
  refine wpAny_Call_method_late hbase hfew hline rfl (thn (ho pins s σ H _ I h) fun v s1 ⟨x, H1, I1, r1, ty, q1⟩ => ?_)
  obtain ⟨h1, h2⟩ := tyV_is I1 r1 ty
  refine ⟨T, id, pa, slot, hty, h1, h2, ?_⟩
  have hA := ha cpos pins s1 σ H1 _ I1 q1
  rw [hs] at hA ⊢
  refine Calls.callWith_builtin (by show (false || (backTo cpos (starEach es X.env)).any (·.1)) = false; rw [hplain] <;> rfl) (Calls.evalArgs_plain ?_)
  exact thn hA fun us s2 ⟨vs, H2, I2, r2, q2⟩ => hm pins s2 σ H2 x vs v us Q I2 r1 r2 q2
/- xs.append(e), list.index on a module's tuple .. are MtR facts of 06m -/
end
end L2

namespace L2
open PySem PySem.Spec PyProof.Rows

noncomputable def MtM (X : Cx) (id : String) (r : V → List V → Hp → VK → Prop) : Prop :=
  ∀ (pins : List (Addr × Obj)) (s : Shared) (σ : St) (H : Hp) (x : V) (xs : List V) (v : Value) (us : List Value) (Q : VK), Inv X pins σ H s → RelV x v → Vals xs us → r x xs H Q →
    wpAny (model X.prog X.w) X.A (call (.builtin id) (v :: us)) (EP X pins σ Q) X.xe s

theorem Vals.one : ∀ {x : V} {us : List Value}, Vals [x] us → ∃ u, us = [u] ∧ RelV x u
  | _, _, .cons r .nil => ⟨_, rfl, r⟩
theorem Vals.two : ∀ {x y : V} {us : List Value}, Vals [x, y] us → ∃ u v, us = [u, v] ∧ RelV x u ∧ RelV y v
  | _, _, _, .cons r (.cons q .nil) => ⟨_, _, rfl, r, q⟩
theorem Vals.zero : ∀ {us : List Value}, Vals [] us → us = []
  | _, .nil => rfl
theorem Vals.reverse {xs : List V} {us : List Value} (h : Vals xs us) : Vals xs.reverse us.reverse := by
  induction h with
  | nil => exact .nil
  | cons r t ih => rw [List.reverse_cons, List.reverse_cons]; exact Vals.append ih (.cons r .nil)
section
variable {X : Cx} {pins : List (Addr × Obj)} {σ : St} {H : Hp} {s : Shared} {l b : Addr} {xs ys zs : List V}

theorem Inv.lset {its its' : List Value} {n : Nat} {f : Array Value → Array Value} {t' : Nat} (I : Inv X pins σ H s) (hH : H l = some (.lst xs))
    (e : s.heap.get? l = some { cls := .type "list", data := .seq its.toArray n }) (hf : f its.toArray = its'.toArray) (hv : Vals ys its') (hz : ys.length ≤ sizeLine) :
    Inv X pins σ (upd H l (.lst ys)) { s with heap := s.heap.update l (Obj.mapSeq f), toks := t' } := by
  have q := PySem.IsL.update e f
  rw [hf] at q
  refine I.write (x := l) (e := l) (by rw [hH]; exact trivial) (.inl rfl) (fun b' u hb hu => (Heap.get?_update_other s.heap (Obj.mapSeq f) (Ne.symm hb)).trans hu) ⟨_, q⟩ ?_
  exact ⟨hz, its', _, hv, q⟩
theorem Inv.lnew {its : List Value} {t' : Nat} (I : Inv X pins σ H s) (hv : Vals ys its) (hz : ys.length ≤ sizeLine) :
    Inv X pins σ (upd H s.heap.objs.size (.lst ys)) { s with heap := s.heap.push { cls := .type "list", data := .seq its.toArray }, toks := t' } :=
  I.laid (fun _ _ q => Heap.get?_push_of_some _ q) (Nat.le_refl _) ⟨hz, its, 0, hv, Heap.get?_push_size _ rfl⟩
theorem Inv.fresh (I : Inv X pins σ H s) : H s.heap.objs.size = none := I.hok.fresh (Nat.le_refl _)
theorem Inv.lstM (I : Inv X pins σ H s) (hH : H l = some (.lst xs)) : xs.length ≤ sizeLine ∧ ∃ (its : List Value) (n : Nat), Vals xs its ∧ xs.length = its.length ∧ s.heap.get? l = some { cls := .type "list", data := .seq its.toArray n } := by
  obtain ⟨z, its, n, r, e⟩ := I.hok l _ hH
  exact ⟨z, its, n, r, r.length, e⟩

end

section
variable {X : Cx}

noncomputable def rAppend : V → List V → Hp → VK → Prop := fun x vs H Q => ∃ l xs y, x = .ref l ∧ vs = [y] ∧ H l = some (.lst xs) ∧ xs.length < sizeLine ∧ Q .non (upd H l (.lst (xs ++ [y])))
theorem mt_append : MtM X "list.append" rAppend := by
  intro pins s σ H x vs v us Q I rx rv h
  obtain ⟨l, xs, y, rfl, rfl, hH, hz, q⟩ := h
  cases rx
  obtain ⟨u, rfl, ru⟩ := rv.one
  obtain ⟨z, its, n, r, hl, e⟩ := I.lstM hH
  refine call_meets F.slot_list_append ⟨_, e, rfl⟩ F.entry_list_append (F.args_list_append_2 _ _) (PySem.list_append l its.toArray n u (by rw [List.size_toArray]; omega)) ⟨e, ?_⟩
  refine ⟨.non, _, I.lset (its' := its ++ [u]) hH e (by simp) (r.append (.cons ru .nil)) ?_, rfl, q⟩
  rw [List.length_append, List.length_singleton]
  omega

noncomputable def rReverse : V → List V → Hp → VK → Prop := fun x vs H Q => ∃ l xs, x = .ref l ∧ vs = [] ∧ H l = some (.lst xs) ∧ Q .non (upd H l (.lst xs.reverse))
theorem mt_reverse : MtM X "list.reverse" rReverse := by
  intro pins s σ H x vs v us Q I rx rv h
  obtain ⟨l, xs, rfl, rfl, hH, q⟩ := h
  cases rx
  have hus := rv.zero
  subst hus
  obtain ⟨z, its, n, r, hl, e⟩ := I.lstM hH
  refine call_meets F.slot_list_reverse ⟨_, e, rfl⟩ F.entry_list_reverse (F.args_list_reverse_1 _) (AutoSeq1.list_reverse_list_0 l its.toArray n (by rw [List.size_toArray]; omega)) ⟨e, ?_⟩
  refine ⟨.non, _, I.lset (its' := its.reverse) hH e (by simp) r.reverse ?_, rfl, q⟩
  rw [List.length_reverse]
  omega

noncomputable def rCat : R2 := fun x y H Q => ∃ l b xs zs, x = .ref l ∧ y = .ref b ∧ H l = some (.lst xs) ∧ H b = some (.lst zs) ∧ xs.length + zs.length ≤ sizeLine ∧ ∀ p, H p = none → Q (.ref p) (upd H p (.lst (xs ++ zs)))
theorem op_cat : OpR X (binaryOp .Add) rCat := by
  intro pins s σ H x y v u Q I rx ry h
  obtain ⟨l, b, xs, zs, rfl, rfl, hH, hB, hz, q⟩ := h
  cases rx
  cases ry
  obtain ⟨z, its, n, r, hl, e⟩ := I.lstM hH
  obtain ⟨z2, its2, n2, r2, hl2, e2⟩ := I.lstM hB
  refine PySem.P.add_list e e2 ?_ (by rw [List.size_toArray, List.size_toArray]; omega)
  have ea : its.toArray ++ its2.toArray = (its ++ its2).toArray := by simp
  rw [ea]
  exact ⟨.ref _, _, I.lnew (t' := s.toks) (r.append r2) (by rw [List.length_append]; omega), rfl, q _ I.fresh⟩
end

section
variable {prog : Program} {w : World} {A : Around} {E : Value → Shared → Prop} {s : Shared}
end

section
variable {X : Cx}
end
end L2

namespace Att
open PySem PySem.W PySem.Calls PyProof.Rows

theorem ints_of_wellAll {P : Params} {h : Heap} : ∀ (ns : List Int) (vs : List Value), WellAll P h vs (ns.map WData.int) → IntsAre vs ns := by
  intro ns
  induction ns with
  | nil =>
    intro vs w
    rw [List.map_nil] at w
    cases w
    exact .nil
  | cons n ns ih =>
    intro vs w
    rw [List.map_cons] at w
    cases w with
    | cons a b =>
      cases a
      exact .cons _ _ (ih _ b)

theorem script_of {l : OpenLaw} {n : Nat} (hn : l.most = some n) {P : Params} {h : Heap} {args : List WData} {vals : List Value}
    (hpre : l.row.toRowW.claim.pre args = true) (hwl : WellAll P h vals args) :
    ∃ a vs ns, vals = [Value.ref a] ∧ args = [WData.list (ns.map WData.int)] ∧ h.get? a = some { cls := .type "list", data := .seq vs.toArray } ∧ IntsAre vs ns ∧ ns.length ≤ n := by
  have hsh : WShape.hasAll [] args [.list .int] = true := (pre_splitW hpre).1
  have hc : l.pre.holds [] { args := args } = true := (pre_splitW hpre).2
  obtain ⟨d, r, rfl, h1, h2⟩ := hasAllW_cons hsh
  obtain rfl := hasAllW_nil h2
  obtain ⟨xs, rfl, h3⟩ := hasW_list h1
  obtain ⟨ns, rfl⟩ := items_int h3
  have hlen : ns.length ≤ n := by
    unfold OpenLaw.pre at hc
    have h4 : (WTm.not (.lt (.lit (.int (n : Int))) (.len (.arg 0)))).holds [] { args := [.list (ns.map .int)] } = true := by
      have h4 := (holds_andW hc).1
      rw [hn] at h4
      exact h4
    have h5 := condW_of h4 (w_not (w_lt w_lit (w_len_list (w_arg rfl))))
    rw [List.length_map] at h5
    refine Nat.le_of_not_lt fun q => ?_
    have q' : (n : Int) < ((ns.length : Nat) : Int) := by omega
    first
      | (rw [decide_eq_true q'] at h5; exact absurd h5 (by decide))
      | (simp at h5; omega)
  cases hwl with
  | cons w1 w2 =>
    cases w2
    cases w1 with
    | list ho hall => exact ⟨_, _, ns, rfl, rfl, ho, ints_of_wellAll ns _ hall, hlen⟩

theorem post_true (l : OpenLaw) (args : List WData) : l.row.toRowW.claim.post args (.bool true) args = true :=
  postW_of (r := l.row.toRowW) (X := (true == true))
    (show WShape.has [] (.bool true) .bool = true by first | rfl | decide | simp [WShape.has, WShape.arms, WShape.armsAll])
    (show (WTm.eq .res (.lit (.bool true))).value [] { args := args, res := some (.bool true), after := args } = some (.bool (true == true)) from w_eq_bool (w_res rfl) w_lit) rfl

theorem attach_call {l : OpenLaw} {n : Nat} {q : Program} {loose : List Str} {XP : (Str → Option Value) → Heap → Prop} {YP : World → Heap → Prop} {d : DefRec}
    (hn : l.most = some n) (hdf : d.params.defaults = [])
    (call : ∀ (w : World) (s₀ s₁ : Shared) (mg mb : Str → Option Value) (fa : Addr) (o : Obj) (pm cd doc : Value) (a : Addr) (vs : List Value) (ns : List Int),
      Ground q loose [] XP w s₀ mg mb s₁.heap → YP w s₁.heap →
      s₁.heap.get? fa = some o → o.data = .func (docDef d.name d.params d.body d.scope pm cd doc) → s₁.heap.CodeRec cd d.name → mg d.name = some (.ref fa) →
      s₁.heap.get? a = some { cls := .type "list", data := .seq vs.toArray } → IntsAre vs ns → ns.length ≤ n → s₁.gens = #[] →
      codeAny (model l.prog w) callerA (.call (.ref fa) ⟨[.ref a], []⟩) (fun r s' => r = .ok (.ret (.bool true)) ∧ OldK s₁.heap s'.heap ∧ s'.os = s₁.os ∧ AllBare s'.gens) s₁) :
    WalkO q loose XP YP l.row.toRowW d [] (fun f vs => PySem.call f vs) := by
  intro w s₀ s₁ mg mb G Y fa o pm cd doc dV kV ho hd hcd hD hmg hg args vals as hpre hlay hrd hwl hlo
  obtain rfl : dV = .none := Dflts.none hD hdf
  obtain rfl : kV = .none := Dflts.noKw hD
  obtain ⟨a, vs, ns, rfl, rfl, hobj, hints, hlen⟩ := script_of hn hpre hwl
  refine enter_call (codeAny_mono (call w s₀ s₁ mg mb fa o pm cd doc a vs ns G Y ho (fd_plain hd) hcd hmg hobj hints hlen hg) fun r s' hq => ?_)
  obtain ⟨rfl, h2, h3, h4⟩ := hq
  exact ⟨.inl ⟨.bool true, .bool true, [], rfl, fun _ => rfl, .bool true, post_true l _, fun _ => ⟨List.Pairwise.nil, fun _ hm => (nomatch hm)⟩⟩, h2, h3, h4⟩

section
variable {prog : Program} {w : World} {A : Around} {E : Value → Shared → Prop} {s : Shared} {K : Frag}

end
end Att

namespace L2
open PySem PySem.Spec PyProof.Rows

theorem vals_ints : ∀ {vs : List Value} {ns : List Int}, IntsAre vs ns → Vals (ns.map V.int) vs
  | _, _, .nil => .nil
  | _, _, .cons n t h => .cons ⟨t, rfl⟩ (vals_ints h)

noncomputable def Only (H : Hp) : Prop := ∀ b, H b = none ∨ ∃ o xs, H b = some (.frz o (.lst xs))

theorem law_call {P : Program} {w : World} {K : PySem.W.Frag} {mg mb : Str → Option Value} {CX : CXT} {k : Nat} {fa a : Addr} {fd : FuncData} {x : Str} {sp : Sp} {s₁ : Shared} {vs : List Value} {ns : List Int}
    (KX : K.In s₁.heap) (hns : s₁.heap.Ns mainGlobals mg) (hb : s₁.heap.Ns builtinsNs mb) (hbb : ∀ x : Str, x ≠ "__name__" → mb x = bootBuiltins x) (hlim : s₁.heap.NoLimit) (hg : s₁.gens = #[])
    (ha : s₁.heap.get? a = some { cls := .type "list", data := .seq vs.toArray }) (hi : IntsAre vs ns) (hl : ns.length ≤ sizeLine) (hr : Room k callerA)
    (F : ∀ base : Heap, K.In base → base.Ns mainGlobals mg → FnOk P w K mg base CX k fa fd [x] sp) (hbind : ∀ (s : Shared) (u : Value), BindsTo s fd ⟨[u], []⟩ [(x, u)])
    (hsp : ∀ H : Hp, Only H → SqL K H a (ns.map V.int) → sp [.ref a] H (fun v _ => v = .bl true) fun _ _ _ => False)
    (hCX : ∀ H e s', CX [] H s₁ (fun _ _ _ => False) e s' → False) :
    codeAny (model P w) callerA (.call (.ref fa) ⟨[.ref a], []⟩) (fun r s' => r = .ok (.ret (.bool true)) ∧ OldK s₁.heap s'.heap ∧ s'.os = s₁.os ∧ AllBare s'.gens) s₁ := by
  have rv := vals_ints hi
  have lenV := hi.length
  have core : ∀ H : Hp, Only H → SqL K H a (ns.map V.int) → HOk P w H s₁.heap → (∀ b, H b ≠ none → b = a) → (H a ≠ none → K.lookup a = none) →
      codeAny (model P w) callerA (.call (.ref fa) ⟨[.ref a], []⟩) (fun r s' => r = .ok (.ret (.bool true)) ∧ OldK s₁.heap s'.heap ∧ s'.os = s₁.os ∧ AllBare s'.gens) s₁ := by
    intro H hO hS hok hA hK
    have base_of : ∀ {b : Addr} {o : Obj}, s₁.heap.get? b = some o → H b = none → (hidT s₁.heap H).get? b = some o := fun e n => hidT_get e n
    have noA : ∀ {b : Addr} {o : Obj} {es : Array DictEntry} {ep : Nat}, s₁.heap.get? b = some o → o.data = .dict es ep → H b = none := fun {b o es ep} e d => by
      cases q : H b with
      | none => rfl
      | some u =>
        have e' : b = a := hA b (by rw [q]; simp)
        subst e'
        rw [ha] at e; cases e
        have d' : Data.seq vs.toArray _ = Data.dict es ep := d
        cases d'
    have nsK : ∀ {b : Addr} {m : Str → Option Value}, s₁.heap.Ns b m → (hidT s₁.heap H).Ns b m := fun {b m} ⟨o, es, ep, e, d, r⟩ => ⟨o, es, ep, base_of e (noA e d), d, r⟩
    have hKb : K.In (hidT s₁.heap H) := fun b o e => base_of (KX b o e) (by
      cases q : H b with
      | none => rfl
      | some u =>
        have e' : b = a := hA b (by rw [q]; simp)
        subst e'
        rw [hK (by rw [q]; simp)] at e; cases e)
    have hM : Mod K mg (hidT s₁.heap H) := ⟨hKb, nsK hns, ⟨mb, nsK hb, hbb⟩, let ⟨mc, h1, h2⟩ := hlim; ⟨mc, nsK h1, h2⟩⟩
    have e0 : Env0 P w K mg (hidT s₁.heap H) callerA [] s₁ H := ⟨rfl, hM, fun b o e => of_hidT e, Nat.le_of_eq (hidT_size _ _), trivial, fun b hb => absurd (show b ∈ ([] : List Addr) from hb) (by simp), hok, .of_eq hg⟩
    refine codeAny_mono ((F _ hKb (nsK hns)).run callerA [] s₁ H ⟨[.ref a], []⟩ [.ref a] [.ref a] _ _ hr e0 (hbind s₁ (.ref a)) (.cons rfl .nil) (hsp H hO hS)) fun r s' h => ?_
    cases r with
    | error e => exact (hCX H e s' h).elim
    | ok fl =>
      cases fl with
      | next => exact False.elim h
      | brk => exact False.elim h
      | cont => exact False.elim h
      | ret u =>
        obtain ⟨v, H', os, bare, un, hok', r', q⟩ := h
        have q' : v = .bl true := q
        subst q'
        obtain rfl : u = Value.bool true := r'
        refine ⟨rfl, OldK.of_keep fun b o e => ?_, os, bare⟩
        cases q : H b with
        | none => exact un.keep b o e q (by intro z; exact absurd (show b ∈ ([] : List Addr) from z) (by simp)) (by simp)
        | some u =>
          rcases hO b with z | ⟨ob, xs, z⟩
          · rw [q] at z; cases z
          · have z2 := un.frzs b ob _ z
            obtain ⟨e1, _⟩ := hok b _ z
            obtain ⟨e2, _⟩ := hok' b _ z2
            rw [e] at e1; cases e1
            exact e2
  cases hk : K.lookup a with
  | some o =>
    have e := KX a o hk
    rw [ha] at e
    cases e
    refine core (fun _ => none) (fun _ => .inl rfl) (.inr ⟨_, vs.toArray, _, hk, rfl, rfl, rfl, by rw [List.size_toArray, lenV]; exact hl, by simpa using rv⟩) (fun b u z => by have z' : (none : Option HO) = some u := z; cases z') (fun b z => absurd rfl z) fun z => absurd rfl z
  | none =>
    refine core (fun b => if b = a then some (.frz { cls := .type "list", data := .seq vs.toArray } (.lst (ns.map V.int))) else none) (fun b => ?_) (.inl (.inr ⟨{ cls := .type "list", data := .seq vs.toArray }, if_pos rfl⟩)) (fun b u z => ?_) (fun b z => ?_) fun _ => hk
    · by_cases hb : b = a
      · exact .inr ⟨_, _, if_pos hb⟩
      · exact .inl (if_neg hb)
    · by_cases hb : b = a
      · have z' := (if_pos hb).symm.trans z
        cases z'
        subst hb
        exact ⟨ha, by rw [List.length_map]; exact hl, vs, _, rv, ha⟩
      · have z' := (if_neg hb).symm.trans z
        cases z'
    · by_cases hb : b = a
      · exact hb
      · exact absurd (if_neg hb) z
end L2

namespace L2
open PySem PySem.Spec PyProof.Rows

noncomputable abbrev KOf {K : PySem.W.Frag} {h : Heap} (_ : K.In h) : PySem.W.Frag := K

theorem walk_of {l : PySem.W.OpenLaw} {n k : Nat} {q : Program} {loose : List Str} {XP : (Str → Option Value) → Heap → Prop} {YP : World → Heap → Prop} {d : DefRec} {K : Params → PySem.W.Frag} {CX : World → CXT} {sp : World → Sp} {x : Str}
    (hn : l.most = some n) (hn2 : n ≤ sizeLine) (hdf : d.params.defaults = []) (hr : Room k callerA)
    (hY : ∀ (w : World) (h : Heap), YP w h → (K w.params).In h)
    (F : ∀ (w : World) (mg : Str → Option Value) (fa : Addr) (h : Heap), (K w.params).In h → h.Ns mainGlobals mg → mg d.name = some (.ref fa) →
      ∃ fd : FuncData, (∀ (s : Shared) (u : Value), BindsTo s fd ⟨[u], []⟩ [(x, u)]) ∧
        ∀ base : Heap, (K w.params).In base → base.Ns mainGlobals mg → FnOk l.prog w (K w.params) mg base (CX w) k fa fd [x] (sp w))
    (hsp : ∀ (w : World) (H : Hp) (a : Addr) (ns : List Int), ns.length ≤ n → Only H → SqL (K w.params) H a (ns.map V.int) → sp w [.ref a] H (fun v _ => v = .bl true) fun _ _ _ => False)
    (hCX : ∀ (w : World) (H : Hp) (s : Shared) (e : Value) (s' : Shared), CX w [] H s (fun _ _ _ => False) e s' → False) :
    PySem.W.WalkO q loose XP YP l.row.toRowW d [] (fun f vs => PySem.call f vs) := by
  refine Att.attach_call hn hdf fun w s₀ s₁ mg mb fa o pm cd doc a vs ns G Y ho hd hcd hmg hobj hints hlen hg => ?_
  have KX := hY w _ Y
  obtain ⟨fd, hb, hF⟩ := F w mg fa _ KX G.T.g hmg
  exact law_call KX G.T.g G.T.b G.T.builtins G.T.nolimit hg hobj hints (Nat.le_trans hlen hn2) hr hF hb (fun H hO hS => hsp w H a ns hlen hO hS) fun H e s' => hCX w H s₁ e s'
end L2

/- THE LAST THEOREM (shape; LID, My.* are yours):
   My.Adr: a structure of the addresses that your layer names (classes, functions); My.Txt K t: a structure (Prop) of the equations over K;
   My.txt_mk : {K} {implicit addresses ..} (e1 : nsIn K mainGlobals "law" = some (some (.ref f))) (e2 : K.lookup f = some ⟨oc, od, .func (fnOf "law" "law" params body scope dV kV doc pm an cdv ct), sl⟩) (e3 : codeIn K cdv "law" = true) .. : ∃ t, My.Txt K t

set_option maxRecDepth 100000 in
set_option maxHeartbeats 0 in
theorem PySem.Challenge.cw_LID_holds : PySem.Challenge.rw_LID.Holds := by
  w_on; o_law; k_head; (case hw => w_witness2)
  k_fill
  refine L2.walk_of (l := PySem.Challenge.rw_LID) (n := 63) (k := 40) (x := "script") (CX := fun w => ..) (sp := fun _ => My.sp_law) rfl (by decide) rfl ⟨rfl, by decide, by decide⟩ (fun w h Y => PySem.W.kIn_of Y) ?F ?S ?C
  case F =>
    intro w mg fa h KX G hmg
    have T : ∃ t, My.Txt (L2.KOf KX) t := by
      dsimp only [L2.KOf]                          -- K must stand as «<heap const> w.params» for k_is
      refine' My.txt_mk ?e1 ?e2 ?e3 ..
      (case e1 => PySem.W.k_is)                    -- in the order: a name -> its address -> its object -> its parts
      (case e2 => PySem.W.k_is)
      ..
    obtain ⟨t, T⟩ := T
    have e0 := hmg.symm.trans (PySem.W.mg_of KX G T.law)
    cases e0                                       -- fa is the law's own address
    exact ⟨_, fun s u => .of_eq rfl, fun base kb nb => My.law_fn T kb nb⟩     -- if «.of_eq rfl» comes too early: refine' ⟨_, ?b, fun base kb nb => My.law_fn T kb nb⟩; exact fun s u => .of_eq rfl
  case S => exact fun w H a ns hl hO hS => ..
  case C => exact ..
(the tactic k_is has no namespace: write k_is) -/

namespace L2
open PySem PySem.Spec PyProof.Rows

noncomputable def defArgs (s : Stmt) : Arguments := match s with
  | .FunctionDef _ a _ _ _ _ _ _ _ _ => a
  | _ => { posonlyargs := [], args := [], vararg := none, kwonlyargs := [], kw_defaults := [], kwarg := none, defaults := [] }
noncomputable def defBody (s : Stmt) : List Stmt := match s with
  | .FunctionDef _ _ b _ _ _ _ _ _ _ => b
  | _ => []
noncomputable def defScope (s : Stmt) : Scope := match s with
  | .FunctionDef _ _ _ _ _ _ sc _ _ _ => sc
  | _ => { kind := .function, names := [], isGenerator := false, isCoroutine := false }

noncomputable abbrev CX0 : CXT := fun _ _ _ _ _ _ => False
noncomputable abbrev E0 : XK := fun _ _ _ => False
theorem pass0 {X : Cx} : Passes CX0 X E0 := fun _ _ _ _ _ _ _ h => h.elim

structure Fun (K : PySem.W.Frag) (x qual : Str) (st : Stmt) (f : Addr) (fd : FuncData) : Prop where
  ex : ∃ (oc : Value) (od : Option Addr) (kV doc pm : Value) (an : Option Addr) (cdv ct : Value) (osl : Array (Option Value)),
    fd = PySem.W.fnOf x qual (defArgs st) (defBody st) (defScope st) .none kV doc pm an cdv ct ∧ K.lookup f = some ⟨oc, od, .func fd, osl⟩ ∧ PySem.W.codeIn K cdv qual = true
  kp : PySem.W.keepIn K (.ref f) = true
section
variable {P : Program} {w : World} {K : PySem.W.Frag} {mg : Str → Option Value} {base : Heap}
theorem Fun.ok {x qual : Str} {st : Stmt} {f : Addr} {fd : FuncData} {N ps : List Str} {k : Nat} {sp : Sp} (F : Fun K x qual st f fd) (S : FnScope N ps (defScope st)) (len : ∀ vs H Q E, sp vs H Q E → vs.length = ps.length)
    (hbody : ∀ (cdv : Value) (A : Around) (outer : List Env) (s : Shared) (H : Hp) (vs : List V) (Q : VK) (E : XK), Room k (A.deeper (envOfC qual (defScope st) s.heap.objs.size f cdv)) → sp vs H Q E →
      ∃ t, PSs (cxOf CX0 P w K mg base N qual (defScope st) f cdv A outer s H E).nox (defBody st) t ∧ t { nx := fun _ H' => Q .non H', rt := Q } (start N vs) H) : FnOk P w K mg base CX0 (k + 1) f fd ps sp := by
  obtain ⟨oc, od, kV, doc, pm, an, cdv, ct, osl, rfl, lk, hcd⟩ := F.ex
  refine fn_of lk hcd S len fun A outer s H vs Q E hr hsp => ?_
  obtain ⟨t, h, q⟩ := hbody cdv A outer s H vs Q E hr hsp
  exact ⟨t, h.nox, q⟩
theorem Fun.binds {x qual : Str} {st : Stmt} {f : Addr} {fd : FuncData} {ps : List Str} (F : Fun K x qual st f fd)
    (h : ∀ (kV doc pm : Value) (an : Option Addr) (cdv ct : Value) (us : List Value), us.length = ps.length → bindArgs (PySem.W.fnOf x qual (defArgs st) (defBody st) (defScope st) .none kV doc pm an cdv ct) ⟨us, []⟩ = pure (ps.zip us)) : Binds K fd ps [] := by
  obtain ⟨oc, od, kV, doc, pm, an, cdv, ct, osl, rfl, lk, hcd⟩ := F.ex
  exact .all (h kV doc pm an cdv ct)
theorem fun_mk {x qual : Str} {st : Stmt} {f : Addr} {oc : Value} {od an : Option Addr} {osl : Array (Option Value)} {kV doc pm cdv ct : Value} (l : K.lookup f = some ⟨oc, od, .func (PySem.W.fnOf x qual (defArgs st) (defBody st) (defScope st) .none kV doc pm an cdv ct), osl⟩)
    (c : PySem.W.codeIn K cdv qual = true) (k : PySem.W.keepIn K (.ref f) = true) : Fun K x qual st f (PySem.W.fnOf x qual (defArgs st) (defBody st) (defScope st) .none kV doc pm an cdv ct) := ⟨⟨oc, od, kV, doc, pm, an, cdv, ct, osl, rfl, l, c⟩, k⟩
end
theorem small1000 {n : Nat} (h : n ≤ 1000) : n < sizeLine := Nat.lt_of_le_of_lt h (by decide)

section
variable {X : Cx}
theorem pv (i : Nat) {x : Str} {pos : Pos} (hN : X.N[i]? = some x := by rfl) (hv : Vis X.env.scope x := by first | exact Or.inl rfl | exact Or.inr (Or.inl rfl) | exact Or.inr (Or.inr rfl)) (hd : (x == ("__debug__" : Str)) = false := by decide)
    (hcd : (x == ("__classdict__" : Str)) = false := by decide) : PE X (.Name x pos) (tVar i) := pe_var hN hv hd hcd
end

theorem iteF {A B : Prop} (h : B) : if false = true then A else B := by
  rw [if_neg Bool.false_ne_true]
  exact h
theorem iteT {A B : Prop} (h : A) : if true = true then A else B := by
  rw [if_pos rfl]
  exact h
theorem ite2 {c A B : Prop} [Decidable c] (h1 : c → A) (h2 : ¬ c → B) : if c then A else B := by
  by_cases h : c
  · rw [if_pos h]
    exact h1 h
  · rw [if_neg h]
    exact h2 h
noncomputable def Same (H H' : Hp) : Prop := ∀ b o, H b = some o → H' b = some o
theorem Same.refl (H : Hp) : Same H H := fun _ _ h => h
theorem Same.trans {H H1 H2 : Hp} (a : Same H H1) (b : Same H1 H2) : Same H H2 := fun c o h => b c o (a c o h)
theorem Same.free {H H' : Hp} (e : Same H H') {l : Addr} (h : H' l = Option.none) : H l = Option.none := by
  cases q : H l with
  | none => rfl
  | some o =>
    rw [e l o q] at h
    cases h
theorem Same.seq {K : PySem.W.Frag} {H H' : Hp} {a : Addr} {xs : List V} (e : Same H H') (h : SqL K H a xs) : SqL K H' a xs := by
  rcases h with (h | ⟨o, h⟩) | h
  · exact .inl (.inl (e _ _ h))
  · exact .inl (.inr ⟨o, e _ _ h⟩)
  · exact .inr h

end L2

section
namespace SH
noncomputable def C : Nat → Nat → Nat
  | _, 0 => 1
  | 0, _ + 1 => 0
  | n + 1, k + 1 => C n k + C n (k + 1)
theorem C_zero (n : Nat) : C n 0 = 1 := by cases n <;> rfl
theorem C_zs (k : Nat) : C 0 (k + 1) = 0 := rfl
theorem C_ss (n k : Nat) : C (n + 1) (k + 1) = C n k + C n (k + 1) := rfl
theorem C_lt : ∀ {n k : Nat}, n < k → C n k = 0
  | _, 0, h => absurd h (Nat.not_lt_zero _)
  | 0, k + 1, _ => rfl
  | n + 1, k + 1, h => by rw [C_ss, C_lt (show n < k by omega), C_lt (show n < k + 1 by omega)]
theorem C_self : ∀ n : Nat, C n n = 1
  | 0 => rfl
  | n + 1 => by rw [C_ss, C_self n, C_lt (Nat.lt_succ_self n)]
theorem C_pos : ∀ {n k : Nat}, k ≤ n → 0 < C n k
  | n, 0, _ => by rw [C_zero]; decide
  | 0, k + 1, h => absurd h (by omega)
  | n + 1, k + 1, h => by rw [C_ss]; have := C_pos (show k ≤ n by omega); omega
theorem C_le_succ (n k : Nat) : C n k ≤ C (n + 1) k := by
  cases k with
  | zero => rw [C_zero, C_zero]; exact Nat.le_refl _
  | succ k => rw [C_ss]; exact Nat.le_add_left _ _
theorem C_mono {n m : Nat} (k : Nat) (h : n ≤ m) : C n k ≤ C m k := by
  induction h with
  | refl => exact Nat.le_refl _
  | step _ ih => exact Nat.le_trans ih (C_le_succ _ _)
theorem C_symm : ∀ {n k : Nat}, k ≤ n → C n (n - k) = C n k
  | n, 0, _ => by rw [C_zero, Nat.sub_zero, C_self]
  | 0, k + 1, h => absurd h (by omega)
  | n + 1, k + 1, h => by
    rw [Nat.succ_sub_succ, C_ss]
    by_cases e : k = n
    · subst e
      rw [Nat.sub_self, C_zero, C_self, C_lt (Nat.lt_succ_self k)]
    · have e1 : n - k = (n - (k + 1)) + 1 := by omega
      rw [e1, C_ss, ← e1, C_symm (show k + 1 ≤ n by omega), C_symm (show k ≤ n by omega), Nat.add_comm]
noncomputable def Fall : Nat → List Nat → Prop
  | _, [] => True
  | b, x :: r => x < b ∧ Fall x r
noncomputable def num : List Nat → Nat
  | [] => 0
  | x :: r => C x (r.length + 1) + num r
theorem Fall.mono : ∀ {b c : Nat} {r : List Nat}, Fall b r → b ≤ c → Fall c r
  | _, _, [], _, _ => trivial
  | _, _, _ :: _, h, l => ⟨Nat.lt_of_lt_of_le h.1 l, h.2⟩
theorem Fall.mem : ∀ {b : Nat} {r : List Nat}, Fall b r → ∀ x ∈ r, x < b
  | _, [], _, _, h => nomatch h
  | b, y :: r, h, x, m => by
    rcases List.mem_cons.mp m with rfl | m
    · exact h.1
    · exact Nat.lt_trans (Fall.mem h.2 x m) h.1
theorem num_lt : ∀ {b : Nat} {r : List Nat}, Fall b r → num r < C b r.length
  | b, [], _ => by show 0 < C b 0; rw [C_zero]; decide
  | b, x :: r, h => by
    have h1 := num_lt h.2
    have h2 : C (x + 1) (r.length + 1) ≤ C b (r.length + 1) := C_mono _ h.1
    rw [C_ss] at h2
    show C x (r.length + 1) + num r < C b (r.length + 1)
    omega
noncomputable def top : Nat → Nat → Nat → Nat
  | 0, _, _ => 0
  | b + 1, k, n => if C b k ≤ n then b else top b k n
noncomputable def greedy : Nat → Nat → Nat → List Nat
  | _, 0, _ => []
  | b, k + 1, n => top b (k + 1) n :: greedy (top b (k + 1) n) k (n - C (top b (k + 1) n) (k + 1))
theorem top_spec : ∀ {b k n : Nat}, n < C b (k + 1) → top b (k + 1) n < b ∧ C (top b (k + 1) n) (k + 1) ≤ n ∧ n < C (top b (k + 1) n + 1) (k + 1)
  | 0, k, n, h => by rw [C_zs] at h; omega
  | b + 1, k, n, h => by
    unfold top
    by_cases q : C b (k + 1) ≤ n
    · rw [if_pos q]; exact ⟨Nat.lt_succ_self _, q, h⟩
    · rw [if_neg q]
      have := top_spec (b := b) (k := k) (n := n) (by omega)
      exact ⟨by omega, this.2⟩
theorem greedy_len : ∀ (k b n : Nat), (greedy b k n).length = k
  | 0, _, _ => rfl
  | k + 1, b, n => by show (greedy _ k _).length + 1 = k + 1; rw [greedy_len]
theorem greedy_ok : ∀ {k b n : Nat}, n < C b k → Fall b (greedy b k n) ∧ num (greedy b k n) = n
  | 0, b, n, h => by rw [C_zero] at h; exact ⟨trivial, by show 0 = n; omega⟩
  | k + 1, b, n, h => by
    obtain ⟨h1, h2, h3⟩ := top_spec h
    rw [C_ss] at h3
    obtain ⟨g1, g2⟩ := greedy_ok (k := k) (b := top b (k + 1) n) (n := n - C (top b (k + 1) n) (k + 1)) (by omega)
    refine ⟨⟨h1, g1⟩, ?_⟩
    show C _ ((greedy _ k _).length + 1) + num (greedy _ k _) = n
    rw [greedy_len, g2]
    omega
noncomputable def ahead : Nat → List Nat → List Nat → Bool
  | 0, _, _ => false
  | n + 1, r, q => if decide (n ∈ r) != decide (n ∈ q) then decide (n ∈ q) else ahead n r q
theorem Fall.top_or {n : Nat} {r : List Nat} (h : Fall (n + 1) r) : (Fall n r ∧ n ∉ r) ∨ ∃ t, r = n :: t ∧ Fall n t := by
  cases r with
  | nil => exact .inl ⟨trivial, by simp⟩
  | cons x t =>
    by_cases e : x = n
    · subst e; exact .inr ⟨t, rfl, h.2⟩
    · have hx : x < n := by have := h.1; omega
      have f : Fall n (x :: t) := ⟨hx, h.2⟩
      exact .inl ⟨f, fun m => Nat.lt_irrefl _ (f.mem n m)⟩
theorem num_inj : ∀ {n : Nat} {r q : List Nat}, Fall n r → Fall n q → r.length = q.length → num r = num q → r = q
  | n, [], [], _, _, _, _ => rfl
  | n, [], _ :: _, _, _, h, _ => by simp at h
  | n, _ :: _, [], _, _, h, _ => by simp at h
  | n, x :: r, y :: q, hr, hq, hl, hn => by
    have hl' : r.length = q.length := by simpa using hl
    have e1 : num (x :: r) = C x (r.length + 1) + num r := rfl
    have e2 : num (y :: q) = C y (q.length + 1) + num q := rfl
    have a1 := num_lt hr.2
    have a2 := num_lt hq.2
    rw [e1, e2] at hn
    have hxy : x = y := by
      rcases Nat.lt_trichotomy x y with z | z | z
      · have := C_mono (q.length + 1) z
        rw [Nat.succ_eq_add_one, C_ss] at this
        rw [hl'] at hn a1
        omega
      · exact z
      · have := C_mono (r.length + 1) z
        rw [Nat.succ_eq_add_one, C_ss] at this
        rw [← hl'] at hn a2
        omega
    subst hxy
    rw [hl'] at hn
    rw [num_inj hr.2 hq.2 hl' (by omega)]
theorem greedy_num {b k : Nat} {r : List Nat} (h : Fall b r) (hl : r.length = k) : greedy b k (num r) = r := by
  have h0 : num r < C b k := by rw [← hl]; exact num_lt h
  obtain ⟨g1, g2⟩ := greedy_ok h0
  exact num_inj g1 h (by rw [greedy_len, hl]) g2
end SH

end
section
namespace SH
noncomputable def topA (k m : Nat) : Nat := top (m + k + 1) k m
theorem C_grow (k : Nat) : ∀ m : Nat, m < C (m + k + 1) (k + 1)
  | 0 => C_pos (by omega)
  | m + 1 => by
    have h := C_grow k m
    have e : m + 1 + k + 1 = (m + k + 1) + 1 := by omega
    rw [e, C_ss]
    have := C_pos (show k ≤ m + k + 1 by omega)
    omega
theorem topA_spec (k m : Nat) : C (topA (k + 1) m) (k + 1) ≤ m ∧ m < C (topA (k + 1) m + 1) (k + 1) := by
  have h : m < C (m + (k + 1) + 1) (k + 1) := Nat.lt_of_lt_of_le (C_grow k m) (C_mono _ (by omega))
  exact (top_spec h).2
theorem C_lt_of {a b k : Nat} (h : C a k < C b k) : a < b := by
  rcases Nat.lt_or_ge a b with z | z
  · exact z
  · exact absurd (C_mono k z) (by omega)
theorem topA_uniq {k m a : Nat} (h1 : C a (k + 1) ≤ m) (h2 : m < C (a + 1) (k + 1)) : topA (k + 1) m = a := by
  obtain ⟨g1, g2⟩ := topA_spec k m
  have l1 : a < topA (k + 1) m + 1 := C_lt_of (k := k + 1) (by omega)
  have l2 : topA (k + 1) m < a + 1 := C_lt_of (k := k + 1) (by omega)
  omega
theorem topA_ge {k m : Nat} (h : 0 < m) : k + 1 ≤ topA (k + 1) m := by
  obtain ⟨g1, g2⟩ := topA_spec k m
  rcases Nat.lt_or_ge (topA (k + 1) m + 1) (k + 2) with z | z
  · by_cases e : topA (k + 1) m + 1 = k + 1
    · rw [e, C_self] at g2; omega
    · rw [C_lt (by omega)] at g2; omega
  · omega
noncomputable def ls : Nat → Nat → Nat
  | 0, _ => 0
  | k + 1, m => if m = 0 then 0 else C (topA (k + 1) m) k + ls k (m - C (topA (k + 1) m) (k + 1))
noncomputable def lw : Nat → Nat → Nat
  | 0, _ => 0
  | k + 1, m => if m = 0 then 0 else C (topA (k + 1) m - 1) k + lw k (m - C (topA (k + 1) m) (k + 1))
noncomputable def lo : Nat → Nat → Nat
  | 0, m => m
  | k + 1, m => if m = 0 then 0 else C (topA (k + 1) m - 1) (k + 1) + lo k (m - C (topA (k + 1) m) (k + 1))
theorem ls_zero (k : Nat) : ls k 0 = 0 := by cases k <;> rfl
theorem lw_zero (k : Nat) : lw k 0 = 0 := by cases k <;> rfl
theorem lo_zero (k : Nat) : lo k 0 = 0 := by cases k <;> rfl
theorem ls_at {k b x : Nat} (hb : k + 1 ≤ b) (h : x < C b k) : ls (k + 1) (C b (k + 1) + x) = C b k + ls k x := by
  have hp := C_pos hb
  have e : topA (k + 1) (C b (k + 1) + x) = b := topA_uniq (by omega) (by rw [C_ss]; omega)
  show (if C b (k + 1) + x = 0 then 0 else _) = _
  rw [if_neg (by omega), e, Nat.add_sub_cancel_left]
theorem ls_C {k b : Nat} (hb : k + 1 ≤ b) : ls (k + 1) (C b (k + 1)) = C b k := by
  have := ls_at (x := 0) hb (C_pos (by omega))
  rw [Nat.add_zero, ls_zero, Nat.add_zero] at this
  exact this
theorem ls_at' {k b x : Nat} (hb : k + 1 ≤ b) (h : x ≤ C b k) : ls (k + 1) (C b (k + 1) + x) = C b k + ls k x := by
  by_cases e : x < C b k
  · exact ls_at hb e
  · have ex : x = C b k := by omega
    subst ex
    have e1 : C b (k + 1) + C b k = C (b + 1) (k + 1) := by rw [C_ss]; omega
    rw [e1, ls_C (by omega)]
    cases k with
    | zero => rw [C_zero, C_zero]; rfl
    | succ k => rw [ls_C (by omega), C_ss, Nat.add_comm]
theorem ls_succ : ∀ (k m : Nat), ls k m ≤ ls k (m + 1)
  | 0, _ => Nat.le_refl _
  | k + 1, m => by
    by_cases h0 : m = 0
    · subst h0; rw [ls_zero]; exact Nat.zero_le _
    · obtain ⟨g1, g2⟩ := topA_spec k m
      have hb := topA_ge (k := k) (m := m) (by omega)
      generalize topA (k + 1) m = a at *
      rw [C_ss] at g2
      obtain ⟨x, rfl⟩ : ∃ x, m = C a (k + 1) + x := ⟨m - C a (k + 1), by omega⟩
      rw [Nat.add_assoc, ls_at' hb (by omega), ls_at' hb (by omega)]
      have := ls_succ k x
      omega
theorem ls_mono (k : Nat) {m n : Nat} (h : m ≤ n) : ls k m ≤ ls k n := by
  induction h with
  | refl => exact Nat.le_refl _
  | step _ ih => exact Nat.le_trans ih (ls_succ _ _)
theorem lw_lo : ∀ (k m : Nat), lw k m + lo k m = m
  | 0, m => Nat.zero_add _
  | k + 1, m => by
    by_cases h0 : m = 0
    · subst h0; rw [lw_zero, lo_zero]
    · obtain ⟨g1, g2⟩ := topA_spec k m
      have hb := topA_ge (k := k) (m := m) (by omega)
      have ih := lw_lo k (m - C (topA (k + 1) m) (k + 1))
      show (if m = 0 then 0 else _) + (if m = 0 then 0 else _) = m
      rw [if_neg h0, if_neg h0]
      generalize topA (k + 1) m = a at *
      obtain ⟨c, rfl⟩ : ∃ c, a = c + 1 := ⟨a - 1, by omega⟩
      rw [Nat.add_sub_cancel, C_ss] at *
      omega
theorem lw_le : ∀ {k a m : Nat}, k + 1 ≤ a → m < C a (k + 1) → lw (k + 1) m ≤ C (a - 1) k
  | k, a, m, ha, h => by
    by_cases h0 : m = 0
    · subst h0; rw [lw_zero]; exact Nat.zero_le _
    · obtain ⟨g1, g2⟩ := topA_spec k m
      have hb := topA_ge (k := k) (m := m) (by omega)
      have hba : topA (k + 1) m < a := C_lt_of (k := k + 1) (by omega)
      show (if m = 0 then 0 else _) ≤ _
      rw [if_neg h0]
      generalize topA (k + 1) m = b at *
      obtain ⟨c, rfl⟩ : ∃ c, b = c + 1 := ⟨b - 1, by omega⟩
      rw [Nat.add_sub_cancel]
      have h1 : C (c + 1) k ≤ C (a - 1) k := C_mono _ (by omega)
      cases k with
      | zero => show C c 0 + 0 ≤ _; rw [C_zero]; exact C_pos (by omega)
      | succ k =>
        have ih := lw_le (k := k) (a := c + 1) (m := m - C (c + 1) (k + 1 + 1)) (by omega) (by rw [C_ss (c + 1)] at g2; omega)
        rw [Nat.add_sub_cancel] at ih
        rw [C_ss] at h1
        omega
theorem ls_lw : ∀ (k m : Nat), ls (k + 1) m ≤ lw (k + 1) m + ls k (lw (k + 1) m)
  | k, m => by
    by_cases h0 : m = 0
    · subst h0; rw [ls_zero]; exact Nat.zero_le _
    · obtain ⟨g1, g2⟩ := topA_spec k m
      have hb := topA_ge (k := k) (m := m) (by omega)
      have e1 : lw (k + 1) m = C (topA (k + 1) m - 1) k + lw k (m - C (topA (k + 1) m) (k + 1)) := if_neg h0
      have e2 : ls (k + 1) m = C (topA (k + 1) m) k + ls k (m - C (topA (k + 1) m) (k + 1)) := if_neg h0
      rw [e1, e2]
      generalize topA (k + 1) m = a at *
      obtain ⟨c, rfl⟩ : ∃ c, a = c + 1 := ⟨a - 1, by omega⟩
      rw [Nat.add_sub_cancel]
      rw [C_ss (c + 1)] at g2
      cases k with
      | zero =>
        show C (c + 1) 0 + 0 ≤ C c 0 + 0 + 0
        rw [C_zero, C_zero]
        exact Nat.le_refl _
      | succ k =>
        have hr : m - C (c + 1) (k + 1 + 1) < C (c + 1) (k + 1) := by omega
        have hl := lw_le (k := k) (a := c + 1) (by omega) hr
        rw [Nat.add_sub_cancel] at hl
        have ih := ls_lw k (m - C (c + 1) (k + 1 + 1))
        rw [ls_at' (by omega) hl, C_ss c k]
        omega
theorem lo_lt : ∀ {k a m : Nat}, k + 1 ≤ a → m < C a k → lo k m < C (a - 1) k
  | 0, a, m, _, h => by rw [C_zero] at h ⊢; exact h
  | k + 1, a, m, ha, h => by
    by_cases h0 : m = 0
    · subst h0; rw [lo_zero]; exact C_pos (by omega)
    · obtain ⟨g1, g2⟩ := topA_spec k m
      have hb := topA_ge (k := k) (m := m) (by omega)
      have hba : topA (k + 1) m < a := C_lt_of (k := k + 1) (by omega)
      have e1 : lo (k + 1) m = C (topA (k + 1) m - 1) (k + 1) + lo k (m - C (topA (k + 1) m) (k + 1)) := if_neg h0
      rw [e1]
      generalize topA (k + 1) m = b at *
      obtain ⟨c, rfl⟩ : ∃ c, b = c + 1 := ⟨b - 1, by omega⟩
      rw [Nat.add_sub_cancel]
      rw [C_ss (c + 1)] at g2
      have h1 : C (c + 1) (k + 1) ≤ C (a - 1) (k + 1) := C_mono _ (by omega)
      rw [C_ss] at h1
      have ih := lo_lt (k := k) (a := c + 1) (m := m - C (c + 1) (k + 1)) (by omega) (by omega)
      rw [Nat.add_sub_cancel] at ih
      omega
theorem C_one (n : Nat) : C n 1 = n := by
  induction n with
  | zero => rfl
  | succ n ih => rw [C_ss, ih, C_zero]; omega
theorem C_pred (k : Nat) : C (k + 1) k = k + 1 := by
  have := C_symm (n := k + 1) (k := 1) (by omega)
  rw [Nat.add_sub_cancel] at this
  rw [this, C_one]
theorem lo_small : ∀ {k m : Nat}, m ≤ k → lo k m = 0
  | 0, m, h => by show m = 0; omega
  | k + 1, m, h => by
    by_cases h0 : m = 0
    · subst h0; exact lo_zero _
    · have e : topA (k + 1) m = k + 1 := by
        refine topA_uniq (by rw [C_self]; omega) ?_
        rw [C_ss, C_self]
        rw [C_pred]; omega
      have e1 : lo (k + 1) m = C (topA (k + 1) m - 1) (k + 1) + lo k (m - C (topA (k + 1) m) (k + 1)) := if_neg h0
      rw [e1, e, C_self, Nat.add_sub_cancel, C_lt (Nat.lt_succ_self k), lo_small (by omega)]
theorem ls_one (k : Nat) : ls (k + 1) 1 = k + 1 := by
  have := ls_C (k := k) (b := k + 1) (Nat.le_refl _)
  rw [C_self, C_pred] at this
  exact this
theorem lw_ls : ∀ {k m : Nat}, 0 < m → lw (k + 1) m ≤ ls (k + 1) (lo (k + 1) m + 1)
  | k, m, hm => by
    have h0 : ¬ m = 0 := by omega
    obtain ⟨g1, g2⟩ := topA_spec k m
    have hb := topA_ge (k := k) (m := m) hm
    have e1 : lw (k + 1) m = C (topA (k + 1) m - 1) k + lw k (m - C (topA (k + 1) m) (k + 1)) := if_neg h0
    have e2 : lo (k + 1) m = C (topA (k + 1) m - 1) (k + 1) + lo k (m - C (topA (k + 1) m) (k + 1)) := if_neg h0
    rw [e1, e2]
    generalize topA (k + 1) m = a at *
    obtain ⟨c, rfl⟩ : ∃ c, a = c + 1 := ⟨a - 1, by omega⟩
    rw [Nat.add_sub_cancel]
    rw [C_ss (c + 1)] at g2
    by_cases hc : c = k
    · subst hc
      rw [C_self, C_lt (Nat.lt_succ_self c)]
      have hr : m - C (c + 1) (c + 1) ≤ c := by rw [C_pred] at g2; omega
      have l1 := lo_small hr
      have l2 := lw_lo c (m - C (c + 1) (c + 1))
      rw [l1] at l2 ⊢
      rw [Nat.zero_add, ls_one]
      omega
    · have hl := lo_lt (k := k) (a := c + 1) (m := m - C (c + 1) (k + 1)) (by omega) (by omega)
      rw [Nat.add_sub_cancel] at hl
      rw [Nat.add_assoc, ls_at' (by omega) (by omega)]
      refine Nat.add_le_add_left ?_ _
      by_cases hr : m - C (c + 1) (k + 1) = 0
      · rw [hr, lw_zero]; exact Nat.zero_le _
      · cases k with
        | zero => exact Nat.zero_le _
        | succ k => exact lw_ls (by omega)
theorem ls_split {k m0 m1 : Nat} (h : ls (k + 1) m0 ≤ m1) : ls (k + 1) (m0 + m1) ≤ m1 + ls k m1 := by
  by_cases h0 : m0 + m1 = 0
  · rw [h0, ls_zero]; exact Nat.zero_le _
  · have hg : lw (k + 1) (m0 + m1) ≤ m1 := by
      refine Nat.le_of_not_lt fun z => ?_
      have e := lw_lo (k + 1) (m0 + m1)
      have h1 : lo (k + 1) (m0 + m1) + 1 ≤ m0 := by omega
      have h2 := lw_ls (k := k) (m := m0 + m1) (by omega)
      have h3 := ls_mono (k + 1) h1
      omega
    have h2 := ls_lw k (m0 + m1)
    have h3 := ls_mono k hg
    omega

noncomputable abbrev Fm := List Bool → Bool
noncomputable def card : Nat → Fm → Nat
  | 0, F => if F [] = true then 1 else 0
  | n + 1, F => card n (fun v => F (true :: v)) + card n (fun v => F (false :: v))
noncomputable def sh : Fm → Fm
  | _, [] => false
  | F, true :: v => sh (fun u => F (true :: u)) v
  | F, false :: v => sh (fun u => F (false :: u)) v || F (true :: v)
noncomputable def wt : List Bool → Nat
  | [] => 0
  | true :: v => wt v + 1
  | false :: v => wt v
noncomputable def Unif (n k : Nat) (F : Fm) : Prop := ∀ v, v.length = n → F v = true → wt v = k
noncomputable def Sub (n : Nat) (F G : Fm) : Prop := ∀ v, v.length = n → F v = true → G v = true
theorem Sub.cons {n : Nat} {F G : Fm} (h : Sub (n + 1) F G) (b : Bool) : Sub n (fun v => F (b :: v)) (fun v => G (b :: v)) := fun v hv => h (b :: v) (by simp [hv])
theorem card_mono : ∀ {n : Nat} {F G : Fm}, Sub n F G → card n F ≤ card n G
  | 0, F, G, h => by
    unfold card
    by_cases e : F [] = true
    · rw [if_pos e, if_pos (h [] rfl e)]; exact Nat.le_refl _
    · rw [if_neg e]; exact Nat.zero_le _
  | n + 1, F, G, h => Nat.add_le_add (card_mono (h.cons true)) (card_mono (h.cons false))
theorem card_congr {n : Nat} {F G : Fm} (h : ∀ v, v.length = n → F v = G v) : card n F = card n G :=
  Nat.le_antisymm (card_mono fun v hv e => by rw [← h v hv]; exact e) (card_mono fun v hv e => by rw [h v hv]; exact e)
theorem card_lt : ∀ {n : Nat} {F G : Fm} {v : List Bool}, Sub n F G → v.length = n → F v = false → G v = true → card n F < card n G
  | 0, F, G, v, h, hv, h1, h2 => by
    have e : v = [] := List.length_eq_zero_iff.mp hv
    subst e
    unfold card
    rw [if_pos h2, if_neg (by rw [h1]; decide)]
    decide
  | n + 1, F, G, b :: v, h, hv, h1, h2 => by
    have hv' : v.length = n := by simpa using hv
    have a := card_mono (h.cons true)
    have c := card_mono (h.cons false)
    cases b with
    | true => have := card_lt (v := v) (h.cons true) hv' h1 h2; unfold card; omega
    | false => have := card_lt (v := v) (h.cons false) hv' h1 h2; unfold card; omega
  | n + 1, F, G, [], h, hv, _, _ => by simp at hv
theorem card_or_and : ∀ (n : Nat) (F G : Fm), card n (fun v => F v || G v) + card n (fun v => F v && G v) = card n F + card n G
  | 0, F, G => by
    have key : ∀ x y : Bool, (if (x || y) = true then 1 else 0) + (if (x && y) = true then 1 else 0) = (if x = true then 1 else 0) + (if y = true then 1 else 0) := by decide
    exact key (F []) (G [])
  | n + 1, F, G => by
    have a := card_or_and n (fun v => F (true :: v)) (fun v => G (true :: v))
    have c := card_or_and n (fun v => F (false :: v)) (fun v => G (false :: v))
    unfold card
    dsimp only at a c ⊢
    omega
theorem sh_mono : ∀ {n : Nat} {F G : Fm}, Sub n F G → Sub n (sh F) (sh G)
  | 0, F, G, h, v, hv, e => by
    have e' : v = [] := List.length_eq_zero_iff.mp hv
    subst e'
    exact absurd e (by simp [sh])
  | n + 1, F, G, h, v, hv, e => by
    match v, hv, e with
    | [], hv, _ => simp at hv
    | true :: v, hv, e =>
      have hv' : v.length = n := by simpa using hv
      exact sh_mono (h.cons true) v hv' e
    | false :: v, hv, e =>
      have hv' : v.length = n := by simpa using hv
      unfold sh at e ⊢
      rcases Bool.or_eq_true_iff.mp e with e | e
      · rw [sh_mono (h.cons false) v hv' e]; rfl
      · rw [h (true :: v) hv e]; exact Bool.or_true _
theorem sh_or : ∀ (v : List Bool) (F G : Fm), sh (fun u => F u || G u) v = (sh F v || sh G v)
  | [], _, _ => rfl
  | true :: v, F, G => by
    unfold sh
    exact sh_or v _ _
  | false :: v, F, G => by
    unfold sh
    rw [sh_or v]
    dsimp only
    cases sh (fun u => F (false :: u)) v <;> cases sh (fun u => G (false :: u)) v <;> cases F (true :: v) <;> cases G (true :: v) <;> rfl
theorem Unif.t {n k : Nat} {F : Fm} (h : Unif (n + 1) (k + 1) F) : Unif n k (fun v => F (true :: v)) := fun v hv e => by
  have := h (true :: v) (by simp [hv]) e
  unfold wt at this
  omega
theorem Unif.f {n k : Nat} {F : Fm} (h : Unif (n + 1) k F) : Unif n k (fun v => F (false :: v)) := fun v hv e => h (false :: v) (by simp [hv]) e
theorem Unif.t0 {n : Nat} {F : Fm} (h : Unif (n + 1) 0 F) : ∀ v, v.length = n → F (true :: v) = false := fun v hv => by
  cases e : F (true :: v) with
  | false => rfl
  | true => have := h (true :: v) (by simp [hv]) e; unfold wt at this; omega

noncomputable def sA : Nat → Fm → Fm → Fm
  | _, A, _, [] => A []
  | 0, A, B, b :: w => (match b with | true => A (true :: w) | false => A (false :: w) || B (true :: w))
  | j + 1, A, B, b :: w => sA j (fun u => A (b :: u)) (fun u => B (b :: u)) w
noncomputable def sB : Nat → Fm → Fm → Fm
  | _, _, B, [] => B []
  | 0, A, B, b :: w => (match b with | true => B (true :: w) && A (false :: w) | false => B (false :: w))
  | j + 1, A, B, b :: w => sB j (fun u => A (b :: u)) (fun u => B (b :: u)) w
theorem s_card : ∀ (j n : Nat) (A B : Fm), card n (sA j A B) + card n (sB j A B) = card n A + card n B
  | 0, 0, A, B => rfl
  | _ + 1, 0, A, B => rfl
  | 0, n + 1, A, B => by
    have h := card_or_and n (fun v => A (false :: v)) (fun v => B (true :: v))
    have e : card n (fun v => B (true :: v) && A (false :: v)) = card n (fun v => A (false :: v) && B (true :: v)) := card_congr fun v _ => Bool.and_comm _ _
    show (card n (fun v => A (true :: v)) + card n (fun v => A (false :: v) || B (true :: v))) + (card n (fun v => B (true :: v) && A (false :: v)) + card n (fun v => B (false :: v))) =
      (card n (fun v => A (true :: v)) + card n (fun v => A (false :: v))) + (card n (fun v => B (true :: v)) + card n (fun v => B (false :: v)))
    omega
  | j + 1, n + 1, A, B => by
    have h1 := s_card j n (fun v => A (true :: v)) (fun v => B (true :: v))
    have h2 := s_card j n (fun v => A (false :: v)) (fun v => B (false :: v))
    show (card n (sA j (fun v => A (true :: v)) (fun v => B (true :: v))) + card n (sA j (fun v => A (false :: v)) (fun v => B (false :: v)))) +
      (card n (sB j (fun v => A (true :: v)) (fun v => B (true :: v))) + card n (sB j (fun v => A (false :: v)) (fun v => B (false :: v)))) =
      (card n (fun v => A (true :: v)) + card n (fun v => A (false :: v))) + (card n (fun v => B (true :: v)) + card n (fun v => B (false :: v)))
    omega
theorem sA_mono : ∀ {j n : Nat} {A B A' B' : Fm}, Sub n A A' → Sub n B B' → Sub n (sA j A B) (sA j A' B')
  | 0, n, A, B, A', B', ha, hb, v, hv, e => by
    match v, hv, e with
    | [], hv, e => exact ha [] hv e
    | true :: w, hv, e => exact ha _ hv e
    | false :: w, hv, e =>
      have hw : (true :: w).length = n := by simpa using hv
      show (A' (false :: w) || B' (true :: w)) = true
      rcases Bool.or_eq_true_iff.mp (show (A (false :: w) || B (true :: w)) = true from e) with e | e
      · rw [ha _ hv e]; rfl
      · rw [hb _ hw e]; exact Bool.or_true _
  | j + 1, n, A, B, A', B', ha, hb, v, hv, e => by
    match n, v, hv, e with
    | n, [], hv, e => exact ha [] hv e
    | n + 1, b :: w, hv, e => exact sA_mono (j := j) (ha.cons b) (hb.cons b) w (by simpa using hv) e
    | 0, b :: w, hv, _ => simp at hv
theorem sB_mono : ∀ {j n : Nat} {A B A' B' : Fm}, Sub n A A' → Sub n B B' → Sub n (sB j A B) (sB j A' B')
  | 0, n, A, B, A', B', ha, hb, v, hv, e => by
    match v, hv, e with
    | [], hv, e => exact hb [] hv e
    | true :: w, hv, e =>
      have hw : (false :: w).length = n := by simpa using hv
      obtain ⟨e1, e2⟩ := Bool.and_eq_true_iff.mp (show (B (true :: w) && A (false :: w)) = true from e)
      show (B' (true :: w) && A' (false :: w)) = true
      rw [hb _ hv e1, ha _ hw e2]; rfl
    | false :: w, hv, e => exact hb _ hv e
  | j + 1, n, A, B, A', B', ha, hb, v, hv, e => by
    match n, v, hv, e with
    | n, [], hv, e => exact hb [] hv e
    | n + 1, b :: w, hv, e => exact sB_mono (j := j) (ha.cons b) (hb.cons b) w (by simpa using hv) e
    | 0, b :: w, hv, _ => simp at hv

theorem b3a {x y z : Bool} (h : (x || z) = true) : ((x || y) || z) = true := by revert h; cases x <;> cases y <;> cases z <;> simp
theorem b3b {x y z : Bool} (h : y = true) : ((x || y) || z) = true := by subst h; cases x <;> cases z <;> rfl
theorem s_shadow : ∀ (j n : Nat) (A B : Fm), Sub n (sh (sA j A B)) (sA j (sh A) (fun v => sh B v || A v)) ∧ Sub n (fun v => sh (sB j A B) v || sA j A B v) (sB j (sh A) (fun v => sh B v || A v))
  | 0, n, A, B => by
    constructor
    · intro v hv e
      match v, hv, e with
      | [], hv, e => exact e
      | true :: w, hv, e => exact e
      | false :: w, hv, e =>
        have e' : (sh (fun u => A (false :: u) || B (true :: u)) w || A (true :: w)) = true := e
        rw [sh_or] at e'
        show ((sh (fun u => A (false :: u)) w || A (true :: w)) || (sh (fun u => B (true :: u)) w || A (true :: w))) = true
        revert e'
        cases sh (fun u => A (false :: u)) w <;> cases sh (fun u => B (true :: u)) w <;> cases A (true :: w) <;> simp
    · intro v hv e
      match v, hv, e with
      | [], hv, e => exact e
      | true :: w, hv, e =>
        have e' : (sh (fun u => B (true :: u) && A (false :: u)) w || A (true :: w)) = true := e
        show ((sh (fun u => B (true :: u)) w || A (true :: w)) && (sh (fun u => A (false :: u)) w || A (true :: w))) = true
        rcases Bool.or_eq_true_iff.mp e' with z | z
        · have z1 := sh_mono (n := w.length) (F := fun u => B (true :: u) && A (false :: u)) (G := fun u => B (true :: u)) (fun u _ q => (Bool.and_eq_true_iff.mp q).1) w rfl z
          have z2 := sh_mono (n := w.length) (F := fun u => B (true :: u) && A (false :: u)) (G := fun u => A (false :: u)) (fun u _ q => (Bool.and_eq_true_iff.mp q).2) w rfl z
          rw [z1, z2]; rfl
        · rw [z]; simp
      | false :: w, hv, e =>
        have e' : ((sh (fun u => B (false :: u)) w || (B (true :: w) && A (false :: w))) || (A (false :: w) || B (true :: w))) = true := e
        show ((sh (fun u => B (false :: u)) w || B (true :: w)) || A (false :: w)) = true
        revert e'
        cases sh (fun u => B (false :: u)) w <;> cases B (true :: w) <;> cases A (false :: w) <;> simp
  | j + 1, n, A, B => by
    constructor
    · intro v hv e
      match n, v, hv, e with
      | n, [], hv, e => exact e
      | n + 1, true :: w, hv, e =>
        have hw : w.length = n := by simpa using hv
        exact (s_shadow j n (fun u => A (true :: u)) (fun u => B (true :: u))).1 w hw e
      | n + 1, false :: w, hv, e =>
        have hw : w.length = n := by simpa using hv
        have e' : (sh (sA j (fun u => A (false :: u)) (fun u => B (false :: u))) w || sA j (fun u => A (true :: u)) (fun u => B (true :: u)) w) = true := e
        show sA j (fun u => sh (fun u => A (false :: u)) u || A (true :: u)) (fun u => (sh (fun u => B (false :: u)) u || B (true :: u)) || A (false :: u)) w = true
        rcases Bool.or_eq_true_iff.mp e' with z | z
        · refine sA_mono (n := n) ?_ ?_ w hw ((s_shadow j n (fun u => A (false :: u)) (fun u => B (false :: u))).1 w hw z)
          · intro u _ q; simp only [q, Bool.true_or]
          · intro u _ q
            exact b3a q
        · refine sA_mono (n := n) ?_ ?_ w hw z
          · intro u _ q; simp only [q, Bool.or_true]
          · intro u _ q
            exact b3b q
    · intro v hv e
      match n, v, hv, e with
      | n, [], hv, e => exact e
      | n + 1, true :: w, hv, e =>
        have hw : w.length = n := by simpa using hv
        exact (s_shadow j n (fun u => A (true :: u)) (fun u => B (true :: u))).2 w hw e
      | n + 1, false :: w, hv, e =>
        have hw : w.length = n := by simpa using hv
        have e' : ((sh (sB j (fun u => A (false :: u)) (fun u => B (false :: u))) w || sB j (fun u => A (true :: u)) (fun u => B (true :: u)) w) || sA j (fun u => A (false :: u)) (fun u => B (false :: u)) w) = true := e
        show sB j (fun u => sh (fun u => A (false :: u)) u || A (true :: u)) (fun u => (sh (fun u => B (false :: u)) u || B (true :: u)) || A (false :: u)) w = true
        have ih := (s_shadow j n (fun u => A (false :: u)) (fun u => B (false :: u))).2 w hw
        have m1 : Sub n (sh fun u => A (false :: u)) (fun u => sh (fun u => A (false :: u)) u || A (true :: u)) := by intro u _ q; simp only [q, Bool.true_or]
        have m2 : Sub n (fun v => sh (fun u => B (false :: u)) v || A (false :: v)) (fun u => (sh (fun u => B (false :: u)) u || B (true :: u)) || A (false :: u)) := by
          intro u _ q
          exact b3a q
        rcases Bool.or_eq_true_iff.mp e' with z | z
        · rcases Bool.or_eq_true_iff.mp z with z | z
          · exact sB_mono (n := n) m1 m2 w hw (ih (by simp only [z, Bool.true_or]))
          · refine sB_mono (n := n) ?_ ?_ w hw z
            · intro u _ q; simp only [q, Bool.or_true]
            · intro u _ q
              exact b3b q
        · exact sB_mono (n := n) m1 m2 w hw (ih (by simp only [z, Bool.or_true]))
theorem sA_unif : ∀ {j n k : Nat} {A B : Fm}, Unif n k A → Unif n (k + 1) B → Unif n k (sA j A B) ∧ Unif n (k + 1) (sB j A B)
  | 0, n, k, A, B, ha, hb => by
    constructor
    · intro v hv e
      match v, hv, e with
      | [], hv, e => exact ha [] hv e
      | true :: w, hv, e => exact ha _ hv e
      | false :: w, hv, e =>
        rcases Bool.or_eq_true_iff.mp (show (A (false :: w) || B (true :: w)) = true from e) with z | z
        · exact ha _ hv z
        · have := hb (true :: w) (by simpa using hv) z
          unfold wt at this ⊢
          omega
    · intro v hv e
      match v, hv, e with
      | [], hv, e => exact hb [] hv e
      | true :: w, hv, e => exact hb _ hv (Bool.and_eq_true_iff.mp (show (B (true :: w) && A (false :: w)) = true from e)).1
      | false :: w, hv, e => exact hb _ hv e
  | j + 1, n, k, A, B, ha, hb => by
    have key : ∀ (b : Bool) (w : List Bool), w.length + 1 = n → (sA j (fun u => A (b :: u)) (fun u => B (b :: u)) w = true → wt (b :: w) = k) ∧ (sB j (fun u => A (b :: u)) (fun u => B (b :: u)) w = true → wt (b :: w) = k + 1) := by
      intro b w hw
      subst hw
      cases b with
      | false =>
        have := sA_unif (j := j) (n := w.length) (k := k) (A := fun u => A (false :: u)) (B := fun u => B (false :: u)) (fun v hv e => ha (false :: v) (by simp [hv]) e) (fun v hv e => hb (false :: v) (by simp [hv]) e)
        exact ⟨fun e => this.1 w rfl e, fun e => this.2 w rfl e⟩
      | true =>
        cases k with
        | zero =>
          have an : ∀ v, v.length = w.length → A (true :: v) = false := fun v hv => by
            cases e : A (true :: v) with
            | false => rfl
            | true => have := ha (true :: v) (by simp [hv]) e; unfold wt at this; omega
          have hb' : ∀ v, v.length = w.length → B (true :: v) = true → wt v = 0 := fun v hv e => by
            have := hb (true :: v) (by simp [hv]) e; unfold wt at this; omega
          have no : ∀ (j : Nat) (P R : Fm) (u : List Bool), (∀ v, v.length = u.length → P v = false) → (∀ v, v.length = u.length → R v = true → wt v = 0) → sA j P R u = false ∧ (sB j P R u = true → wt u = 0) := by
            intro j
            induction j with
            | zero =>
              intro P R u hP hR
              match u with
              | [] => exact ⟨hP [] rfl, fun e => hR [] rfl e⟩
              | true :: t => exact ⟨hP _ rfl, fun e => hR _ rfl (Bool.and_eq_true_iff.mp (show (R (true :: t) && P (false :: t)) = true from e)).1⟩
              | false :: t =>
                refine ⟨?_, fun e => hR _ rfl e⟩
                show (P (false :: t) || R (true :: t)) = false
                rw [hP _ rfl]
                cases e : R (true :: t) with
                | false => rfl
                | true => have := hR (true :: t) rfl e; unfold wt at this; omega
            | succ j ih =>
              intro P R u hP hR
              match u with
              | [] => exact ⟨hP [] rfl, fun e => hR [] rfl e⟩
              | b :: t =>
                cases b with
                | false => exact ih (fun u => P (false :: u)) (fun u => R (false :: u)) t (fun v hv => hP (false :: v) (by simp [hv])) (fun v hv e => hR (false :: v) (by simp [hv]) e)
                | true =>
                  have hR' : ∀ v, v.length = t.length → R (true :: v) = false := fun v hv => by
                    cases e : R (true :: v) with
                    | false => rfl
                    | true => have := hR (true :: v) (by simp [hv]) e; unfold wt at this; omega
                  have := ih (fun u => P (true :: u)) (fun u => R (true :: u)) t (fun v hv => hP (true :: v) (by simp [hv])) (fun v hv e => by rw [hR' v hv] at e; cases e)
                  refine ⟨this.1, fun e => ?_⟩
                  have z : ∀ (j : Nat) (P R : Fm) (u : List Bool), (∀ v, v.length = u.length → R v = false) → sB j P R u = false := by
                    intro j
                    induction j with
                    | zero =>
                      intro P R u hR
                      match u with
                      | [] => exact hR [] rfl
                      | true :: t => show (R (true :: t) && P (false :: t)) = false; rw [hR _ rfl]; rfl
                      | false :: t => exact hR _ rfl
                    | succ j ih =>
                      intro P R u hR
                      match u with
                      | [] => exact hR [] rfl
                      | b :: t => exact ih (fun u => P (b :: u)) (fun u => R (b :: u)) t fun v hv => hR (b :: v) (by simp [hv])
                  have e' : sB j (fun u => P (true :: u)) (fun u => R (true :: u)) t = true := e
                  rw [z j _ _ t hR'] at e'
                  cases e'
          have q := no j (fun u => A (true :: u)) (fun u => B (true :: u)) w an hb'
          refine ⟨fun e => ?_, fun e => ?_⟩
          · rw [q.1] at e; cases e
          · have := q.2 e; unfold wt; omega
        | succ k =>
          have := sA_unif (j := j) (n := w.length) (k := k) (A := fun u => A (true :: u)) (B := fun u => B (true :: u)) (fun v hv e => by have := ha (true :: v) (by simp [hv]) e; unfold wt at this; omega) (fun v hv e => by have := hb (true :: v) (by simp [hv]) e; unfold wt at this; omega)
          exact ⟨fun e => by have := this.1 w rfl e; unfold wt; omega, fun e => by have := this.2 w rfl e; unfold wt; omega⟩
    constructor
    · intro v hv e
      match v, hv, e with
      | [], hv, e => exact ha [] hv e
      | b :: w, hv, e => exact (key b w (by simpa using hv)).1 e
    · intro v hv e
      match v, hv, e with
      | [], hv, e => exact hb [] hv e
      | b :: w, hv, e => exact (key b w (by simpa using hv)).2 e
theorem s_grows : ∀ {n : Nat} {A B : Fm} {v : List Bool}, v.length = n → sh B v = true → A v = false → ∃ j, Sub n A (sA j A B) ∧ sA j A B v = true
  | 0, A, B, v, hv, h1, _ => by
    have e : v = [] := List.length_eq_zero_iff.mp hv
    subst e
    exact absurd h1 (by simp [sh])
  | n + 1, A, B, v, hv, h1, h2 => by
    have up : ∀ (b : Bool) (w : List Bool), w.length = n → sh (fun u => B (b :: u)) w = true → A (b :: w) = false → ∃ j, Sub (n + 1) A (sA j A B) ∧ sA j A B (b :: w) = true := by
      intro b w hw q1 q2
      obtain ⟨j, s1, s2⟩ := s_grows (A := fun u => A (b :: u)) hw q1 q2
      refine ⟨j + 1, fun u hu e => ?_, s2⟩
      match u, hu, e with
      | [], hu, e => exact e
      | c :: t, hu, e =>
        have ht : t.length = n := by simpa using hu
        show sA j (fun u => A (c :: u)) (fun u => B (c :: u)) t = true
        have gen : ∀ (j : Nat) (P R : Fm) (u : List Bool), P u = true → sA j P R u = true := by
          intro j
          induction j with
          | zero =>
            intro P R u h
            match u with
            | [] => exact h
            | true :: t => exact h
            | false :: t => show (P (false :: t) || R (true :: t)) = true; rw [h]; rfl
          | succ j ih =>
            intro P R u h
            match u with
            | [] => exact h
            | b :: t => exact ih (fun u => P (b :: u)) (fun u => R (b :: u)) t h
        exact gen j _ _ t e
    match v, hv, h1, h2 with
    | [], hv, _, _ => simp at hv
    | true :: w, hv, h1, h2 => exact up true w (by simpa using hv) h1 h2
    | false :: w, hv, h1, h2 =>
      have hw : w.length = n := by simpa using hv
      rcases Bool.or_eq_true_iff.mp (show (sh (fun u => B (false :: u)) w || B (true :: w)) = true from h1) with z | z
      · exact up false w hw z h2
      · refine ⟨0, fun u hu e => ?_, ?_⟩
        · match u, hu, e with
          | [], hu, e => exact e
          | true :: t, hu, e => exact e
          | false :: t, hu, e => show (A (false :: t) || B (true :: t)) = true; rw [e]; rfl
        · show (A (false :: w) || B (true :: w)) = true
          rw [z]; exact Bool.or_true _
theorem sub_dec : ∀ (n : Nat) (F G : Fm), Sub n F G ∨ ∃ v, v.length = n ∧ F v = true ∧ G v = false
  | 0, F, G => by
    by_cases h : F [] = true ∧ G [] = false
    · exact .inr ⟨[], rfl, h.1, h.2⟩
    · refine .inl fun v hv q => ?_
      have ev : v = [] := List.length_eq_zero_iff.mp hv
      subst ev
      cases g : G [] with
      | true => rfl
      | false => exact absurd ⟨q, g⟩ h
  | n + 1, F, G => by
    rcases sub_dec n (fun v => F (true :: v)) (fun v => G (true :: v)) with h1 | ⟨v, a, b, c⟩
    · rcases sub_dec n (fun v => F (false :: v)) (fun v => G (false :: v)) with h2 | ⟨v, a, b, c⟩
      · refine .inl fun v hv q => ?_
        match v, hv, q with
        | [], hv, _ => simp at hv
        | true :: w, hv, q => exact h1 w (by simpa using hv) q
        | false :: w, hv, q => exact h2 w (by simpa using hv) q
      · exact .inr ⟨false :: v, by simp [a], b, c⟩
    · exact .inr ⟨true :: v, by simp [a], b, c⟩
theorem push_all {n k : Nat} : ∀ (d : Nat) (A B : Fm), card n B ≤ d → Unif n k A → Unif n (k + 1) B →
    ∃ A' B', card n A' + card n B' = card n A + card n B ∧ Unif n k A' ∧ Unif n (k + 1) B' ∧ card n (sh A') + card n (fun v => sh B' v || A' v) ≤ card n (sh A) + card n (fun v => sh B v || A v) ∧ Sub n (sh B') A' := by
  intro d
  induction d with
  | zero =>
    intro A B hd ha hb
    refine ⟨A, B, rfl, ha, hb, Nat.le_refl _, ?_⟩
    rcases sub_dec n (sh B) A with z | ⟨v, hv, z1, z2⟩
    · exact z
    · obtain ⟨j, s1, s2⟩ := s_grows hv z1 z2
      have := card_lt s1 hv z2 s2
      have := s_card j n A B
      omega
  | succ d ih =>
    intro A B hd ha hb
    rcases sub_dec n (sh B) A with z | ⟨v, hv, z1, z2⟩
    · exact ⟨A, B, rfl, ha, hb, Nat.le_refl _, z⟩
    · obtain ⟨j, s1, s2⟩ := s_grows hv z1 z2
      have c1 := card_lt s1 hv z2 s2
      have c2 := s_card j n A B
      have u := sA_unif (j := j) ha hb
      obtain ⟨A', B', e1, e2, e3, e4, e5⟩ := ih (sA j A B) (sB j A B) (by omega) u.1 u.2
      refine ⟨A', B', by omega, e2, e3, Nat.le_trans e4 ?_, e5⟩
      have w := s_shadow j n A B
      have w1 := card_mono w.1
      have w2 := card_mono w.2
      have w3 := s_card j n (sh A) (fun v => sh B v || A v)
      omega
theorem shadow_least : ∀ {n k : Nat} {F : Fm}, Unif n k F → ls k (card n F) ≤ card n (sh F)
  | 0, 0, F, h => Nat.zero_le _
  | 0, k + 1, F, h => by
    have e : card 0 F = 0 := by
      unfold card
      rw [if_neg]
      intro q
      have := h [] rfl q
      unfold wt at this; omega
    rw [e, ls_zero]; exact Nat.zero_le _
  | n + 1, 0, F, h => Nat.zero_le _
  | n + 1, k + 1, F, h => by
    obtain ⟨A, B, e1, e2, e3, e4, e5⟩ := push_all (n := n) (k := k) _ (fun v => F (true :: v)) (fun v => F (false :: v)) (Nat.le_refl _) h.t h.f
    have i1 := shadow_least e2
    have i2 := shadow_least e3
    have m1 := card_mono e5
    have m2 : card n A ≤ card n (fun v => sh B v || A v) := card_mono fun v _ q => by simp only [q, Bool.or_true]
    have s := ls_split (k := k) (m0 := card n B) (m1 := card n A) (by omega)
    have t1 : card (n + 1) F = card n B + card n A := by
      show card n (fun v => F (true :: v)) + card n (fun v => F (false :: v)) = _
      omega
    have t2 : card (n + 1) (sh F) = card n (sh fun v => F (true :: v)) + card n (fun v => sh (fun u => F (false :: u)) v || F (true :: v)) := rfl
    rw [t1, t2]
    omega
end SH

end
section
namespace SH
noncomputable def hp : Nat → Nat → List Nat
  | 0, _ => []
  | k + 1, m => if m = 0 then [] else topA (k + 1) m :: hp k (m - C (topA (k + 1) m) (k + 1))
end SH

end
section
namespace SH
noncomputable def an : Nat → List Nat → Nat
  | _, [] => 0
  | i, x :: xs => C x (i + 1) + an (i + 1) xs
theorem an_app : ∀ (xs ys : List Nat) (i : Nat), an i (xs ++ ys) = an i xs + an (i + xs.length) ys
  | [], ys, i => by show an i ys = 0 + an (i + 0) ys; rw [Nat.zero_add, Nat.add_zero]
  | x :: xs, ys, i => by
    show C x (i + 1) + an (i + 1) (xs ++ ys) = C x (i + 1) + an (i + 1) xs + an (i + (xs.length + 1)) ys
    rw [an_app xs ys (i + 1), show i + 1 + xs.length = i + (xs.length + 1) by omega]; omega
theorem num_an : ∀ r : List Nat, num r = an 0 r.reverse
  | [] => rfl
  | x :: r => by
    rw [List.reverse_cons, an_app, ← num_an r, List.length_reverse, Nat.zero_add]
    show C x (r.length + 1) + num r = num r + (C x (r.length + 1) + 0)
    omega
noncomputable def gre (k m : Nat) : List Nat := greedy (m + k) k m
theorem C_room {k m : Nat} (h : 1 ≤ k) : m < C (m + k) k := by
  obtain ⟨j, rfl⟩ : ∃ j, k = j + 1 := ⟨k - 1, by omega⟩
  exact C_grow j m
theorem gre_eq {b k m : Nat} (hk : 1 ≤ k) (h : m < C b k) : greedy b k m = gre k m := by
  obtain ⟨f1, n1⟩ := greedy_ok h
  obtain ⟨f2, n2⟩ := greedy_ok (C_room (m := m) hk)
  unfold gre
  exact num_inj (n := max b (m + k)) (f1.mono (Nat.le_max_left _ _)) (f2.mono (Nat.le_max_right _ _)) (by rw [greedy_len, greedy_len]) (by rw [n1, n2])
theorem gre_len (k m : Nat) : (gre k m).length = k := greedy_len _ _ _
theorem fall_pw : ∀ {b : Nat} {r : List Nat}, Fall b r → r.Pairwise (· > ·)
  | _, [], _ => .nil
  | _, _ :: _, h => List.pairwise_cons.mpr ⟨fun y hy => h.2.mem y hy, fall_pw h.2⟩
noncomputable def st (k m : Nat) : List Nat := (gre k m).reverse
theorem st_len (k m : Nat) : (st k m).length = k := by rw [st, List.length_reverse, gre_len]
theorem st_up {k m : Nat} (hk : 1 ≤ k) : (st k m).Pairwise (· < ·) := by
  unfold st
  rw [List.pairwise_reverse]
  exact fall_pw (greedy_ok (C_room (m := m) hk)).1
theorem st_num {k m : Nat} (hk : 1 ≤ k) : an 0 (st k m) = m := by
  unfold st
  rw [← num_an]
  exact (greedy_ok (C_room (m := m) hk)).2
end SH

end
section
namespace SH
noncomputable def cut (l : List Nat) (p : Nat) : List Nat := l.take p ++ l.drop (p + 1)
theorem cut_succ (x : Nat) (l : List Nat) (p : Nat) : cut (x :: l) (p + 1) = x :: cut l p := rfl
theorem cut_mem {l : List Nat} {p x : Nat} (h : x ∈ cut l p) : x ∈ l := by
  unfold cut at h
  rcases List.mem_append.mp h with h | h
  · exact List.mem_of_mem_take h
  · exact List.mem_of_mem_drop h
end SH

end
section
namespace SH
noncomputable def rowOf : List Bool → List Nat
  | [] => []
  | true :: v => v.length :: rowOf v
  | false :: v => rowOf v
theorem rowOf_fall : ∀ v : List Bool, Fall v.length (rowOf v)
  | [] => trivial
  | true :: v => ⟨by show v.length < v.length + 1; omega, rowOf_fall v⟩
  | false :: v => (rowOf_fall v).mono (by show v.length ≤ v.length + 1; omega)
theorem rowOf_wt : ∀ v : List Bool, wt v = (rowOf v).length
  | [] => rfl
  | true :: v => by show wt v + 1 = (rowOf v).length + 1; rw [rowOf_wt v]
  | false :: v => rowOf_wt v
theorem sh_row : ∀ {v : List Bool} {F : Fm}, sh F v = true → ∃ v' p, v'.length = v.length ∧ F v' = true ∧ p < (rowOf v').length ∧ rowOf v = cut (rowOf v') p
  | [], _, h => by cases h
  | true :: v, F, h => by
    obtain ⟨v', p, h1, h2, h3, h4⟩ := sh_row (v := v) (F := fun u => F (true :: u)) h
    refine ⟨true :: v', p + 1, by simp [h1], h2, by show p + 1 < (rowOf v').length + 1; omega, ?_⟩
    show v.length :: rowOf v = cut (v'.length :: rowOf v') (p + 1)
    rw [cut_succ, ← h4, h1]
  | false :: v, F, h => by
    have h' : (sh (fun u => F (false :: u)) v || F (true :: v)) = true := h
    rw [Bool.or_eq_true] at h'
    rcases h' with h' | h'
    · obtain ⟨v', p, h1, h2, h3, h4⟩ := sh_row (v := v) (F := fun u => F (false :: u)) h'
      exact ⟨false :: v', p, by simp [h1], h2, h3, h4⟩
    · exact ⟨true :: v, 0, rfl, h', by show 0 < (rowOf v).length + 1; omega, rfl⟩
theorem card_rows : ∀ (n : Nat) (L : List (List Nat)), L.Nodup → (∀ r ∈ L, Fall n r) → card n (fun v => decide (rowOf v ∈ L)) = L.length
  | 0, L, hn, hf => by
    have e0 : ∀ r ∈ L, r = [] := fun r hr => by
      cases r with
      | nil => rfl
      | cons x r => exact absurd (hf _ hr).1 (Nat.not_lt_zero _)
    unfold card
    match L, hn, e0 with
    | [], _, _ => rfl
    | [a], _, e0 => rw [e0 a (by simp)]; rfl
    | a :: b :: L, hn, e0 =>
      rw [e0 a (by simp), e0 b (by simp)] at hn
      simp at hn
  | n + 1, L, hn, hf => by
    let P : List Nat → Bool := fun r => r.head? == some n
    have e1 : card n (fun v => decide (rowOf (true :: v) ∈ L)) = ((L.filter P).map List.tail).length := by
      rw [← card_rows n ((L.filter P).map List.tail) ?_ ?_]
      · refine card_congr fun v hv => ?_
        rw [Bool.eq_iff_iff, decide_eq_true_iff, decide_eq_true_iff]
        show v.length :: rowOf v ∈ L ↔ _
        rw [hv]
        constructor
        · intro h
          exact List.mem_map.mpr ⟨n :: rowOf v, List.mem_filter.mpr ⟨h, by simp [P]⟩, rfl⟩
        · intro h
          obtain ⟨r, hr, e⟩ := List.mem_map.mp h
          obtain ⟨h1, h2⟩ := List.mem_filter.mp hr
          cases r with
          | nil => simp [P] at h2
          | cons x r =>
            have hx : x = n := by simpa [P] using h2
            rw [List.tail_cons] at e
            rw [← e, ← hx]; exact h1
      · rw [List.nodup_iff_pairwise_ne, List.pairwise_map]
        refine (List.nodup_iff_pairwise_ne.mp (hn.sublist (List.filter_sublist (p := P)))).imp_of_mem fun {a b} ha hb h z => h ?_
        have h1 := (List.mem_filter.mp ha).2
        have h2 := (List.mem_filter.mp hb).2
        cases a with
        | nil => simp [P] at h1
        | cons x a =>
          cases b with
          | nil => simp [P] at h2
          | cons y b =>
            have hx : x = n := by simpa [P] using h1
            have hy : y = n := by simpa [P] using h2
            rw [List.tail_cons, List.tail_cons] at z
            rw [hx, hy, z]
      · intro r hr
        obtain ⟨q, hq, rfl⟩ := List.mem_map.mp hr
        obtain ⟨h1, h2⟩ := List.mem_filter.mp hq
        cases q with
        | nil => exact trivial
        | cons x q =>
          have hx : x = n := by simpa [P] using h2
          rw [← hx]; exact (hf _ h1).2
    have e2 : card n (fun v => decide (rowOf (false :: v) ∈ L)) = (L.filter fun r => !P r).length := by
      rw [← card_rows n (L.filter fun r => !P r) (hn.sublist List.filter_sublist) ?_]
      · refine card_congr fun v hv => ?_
        rw [Bool.eq_iff_iff, decide_eq_true_iff, decide_eq_true_iff]
        show rowOf v ∈ L ↔ _
        rw [List.mem_filter]
        refine ⟨fun h => ⟨h, ?_⟩, fun h => h.1⟩
        have f := rowOf_fall v
        rw [hv] at f
        cases hr : rowOf v with
        | nil => simp [P]
        | cons x r =>
          rw [hr] at f
          have : x < n := f.1
          simp [P]; omega
      · intro r hr
        obtain ⟨h1, h2⟩ := List.mem_filter.mp hr
        rcases (hf r h1).top_or with ⟨f1, _⟩ | ⟨t, rfl, f1⟩
        · exact f1
        · simp [P] at h2
    show card n (fun v => decide (rowOf (true :: v) ∈ L)) + card n (fun v => decide (rowOf (false :: v) ∈ L)) = L.length
    rw [e1, e2, List.length_map]
    have gen : ∀ (l : List (List Nat)), (l.filter P).length + (l.filter fun r => !P r).length = l.length := by
      intro l
      induction l with
      | nil => rfl
      | cons a l ih =>
        rw [List.filter_cons, List.filter_cons, List.length_cons]
        cases P a <;> simp <;> omega
    exact gen L
theorem kk {n k : Nat} {L M : List (List Nat)} (hL : L.Nodup) (hf : ∀ r ∈ L, Fall n r ∧ r.length = k) (hM : M.Nodup) (hg : ∀ r ∈ M, Fall n r) (hs : ∀ r ∈ L, ∀ p, p < k → cut r p ∈ M) : ls k L.length ≤ M.length := by
  have h1 := shadow_least (n := n) (k := k) (F := fun v => decide (rowOf v ∈ L)) fun v hv e => by
    rw [rowOf_wt]
    exact (hf _ (of_decide_eq_true e)).2
  rw [card_rows n L hL fun r hr => (hf r hr).1] at h1
  refine Nat.le_trans h1 ?_
  rw [← card_rows n M hM hg]
  refine card_mono fun v hv e => ?_
  obtain ⟨v', p, g1, g2, g3, g4⟩ := sh_row e
  have h2 := of_decide_eq_true g2
  refine decide_eq_true ?_
  rw [g4]
  exact hs _ h2 p (by rw [← (hf _ h2).2]; exact g3)
end SH

end
section
set_option autoImplicit false
set_option autoImplicit false
set_option linter.all false
namespace Tim
open PySem PyProof.Rows

section
variable {M : Model} {A : Around} {E : Value → Shared → Prop} {s : Shared}

structure Ord (M : Model) (A : Around) (E : Value → Shared → Prop) (s : Shared) (kd : SortKind) (Ok : Keyed → Prop) (R : Keyed → Keyed → Bool) : Prop where
  lt : ∀ {x y : Keyed} {st : SortSt} {Q : Option Bool → SortSt → Prop}, Ok x → Ok y → kindOf st = kd → Q (some (R x y)) st → wpS M A E s (lt' x y) Q st
  asymm : ∀ x y, R x y = true → R y x = false
  neg : ∀ x y z, R x z = true → R x y = true ∨ R y z = true

noncomputable def le (R : Keyed → Keyed → Bool) (x y : Keyed) : Prop := R y x = false
variable {kd : SortKind} {Ok : Keyed → Prop} {R : Keyed → Keyed → Bool}
theorem Ord.refl (O : Ord M A E s kd Ok R) (x : Keyed) : le R x x := by
  unfold le
  cases e : R x x with
  | false => rfl
  | true => have := O.asymm x x e; rw [e] at this; cases this
theorem Ord.le_of_lt (O : Ord M A E s kd Ok R) {x y : Keyed} (h : R x y = true) : le R x y := O.asymm x y h
theorem Ord.trans (O : Ord M A E s kd Ok R) {x y z : Keyed} (h1 : le R x y) (h2 : le R y z) : le R x z := by
  unfold le at *
  cases e : R z x with
  | false => rfl
  | true =>
    rcases O.neg z y x e with q | q
    · rw [h2] at q; cases q
    · rw [h1] at q; cases q
theorem Ord.le_lt (O : Ord M A E s kd Ok R) {x y z : Keyed} (h1 : le R x y) (h2 : R y z = true) : R x z = true := by
  rcases O.neg y x z h2 with q | q
  · unfold le at h1; rw [h1] at q; cases q
  · exact q

noncomputable def dk : Keyed := (.none, .none)
noncomputable def g (a : Array Keyed) (i : Nat) : Keyed := (a[i]?).getD dk
theorem g_congr {a b : Array Keyed} {i j : Nat} (h : a[i]? = b[j]?) : g a i = g b j := by unfold g; rw [h]
theorem g_of {a : Array Keyed} {i : Nat} (h : i < a.size) : a[i]? = some (g a i) := by
  unfold g; rw [getElem?_pos a i h]; rfl
noncomputable def All (Ok : Keyed → Prop) (a : Array Keyed) : Prop := ∀ x ∈ a.toList, Ok x
theorem All.at {a : Array Keyed} (h : All Ok a) {i : Nat} (hi : i < a.size) : Ok (g a i) := by
  refine h _ ?_
  have := g_of hi
  rw [← Array.getElem?_toList] at this
  exact List.mem_of_getElem? this
theorem All.perm {a b : Array Keyed} (h : All Ok a) (p : b.Perm a) : All Ok b := fun x hx => h x ((Array.perm_iff_toList_perm.mp p).mem_iff.mp hx)
noncomputable def Srt (R : Keyed → Keyed → Bool) (a : Array Keyed) (lo hi : Nat) : Prop := ∀ i j, lo ≤ i → i ≤ j → j < hi → le R (g a i) (g a j)
noncomputable def Dec (R : Keyed → Keyed → Bool) (a : Array Keyed) (lo hi : Nat) : Prop := ∀ i j, lo ≤ i → i ≤ j → j < hi → le R (g a j) (g a i)
structure Stir (a b : Array Keyed) (lo hi : Nat) : Prop where
  perm : b.Perm a
  keep : ∀ k, (k < lo ∨ hi ≤ k) → b[k]? = a[k]?
theorem Stir.refl (a : Array Keyed) (lo hi : Nat) : Stir a a lo hi := ⟨Array.Perm.refl _, fun _ _ => rfl⟩
theorem Stir.trans {a b c : Array Keyed} {lo hi : Nat} (h1 : Stir a b lo hi) (h2 : Stir b c lo hi) : Stir a c lo hi := ⟨h2.perm.trans h1.perm, fun k hk => (h2.keep k hk).trans (h1.keep k hk)⟩
theorem Stir.mono {a b : Array Keyed} {lo hi lo' hi' : Nat} (h : Stir a b lo hi) (h1 : lo' ≤ lo) (h2 : hi ≤ hi') : Stir a b lo' hi' := ⟨h.perm, fun k hk => h.keep k (by omega)⟩
theorem Stir.size {a b : Array Keyed} {lo hi : Nat} (h : Stir a b lo hi) : b.size = a.size := h.perm.size_eq
theorem Stir.srt {a b : Array Keyed} {lo hi lo' hi' : Nat} (h : Stir a b lo hi) (hs : Srt R a lo' hi') (hd : hi' ≤ lo ∨ hi ≤ lo') : Srt R b lo' hi' := fun i j h1 h2 h3 => by
  rw [g_congr (h.keep i (by omega)), g_congr (h.keep j (by omega))]
  exact hs i j h1 h2 h3

theorem wpS_at (O : Ord M A E s kd Ok R) {st : SortSt} {i j : Nat} {Q : Option Bool → SortSt → Prop} (hk : kindOf st = kd) (hA : All Ok (arrOf st)) (hi : i < (arrOf st).size) (hj : j < (arrOf st).size)
    (h : Q (some (R (g (arrOf st) i) (g (arrOf st) j))) st) : wpS M A E s (ltAt' i j) Q st := by
  rw [ltAt'_eq]
  refine wpS_bind (wpS_get ?_)
  show wpS _ _ _ _ (elem' (arrOf st) i >>= fun x => elem' (arrOf st) j >>= fun y => lt' x y) Q st
  rw [elem'_eq, elem'_eq, g_of hi, g_of hj]
  exact wpS_bind (wpS_pure (wpS_bind (wpS_pure (O.lt (hA.at hi) (hA.at hj) hk h))))
theorem wpS_rev {st : SortSt} {i j : Nat} {Q : Unit → SortSt → Prop} (h : Q () (setArr st (mirror (arrOf st) i j ((j - i) / 2)))) : wpS M A E s (reverseSlice' i j) Q st := by
  rw [reverseSlice'_eq]
  exact wpS_modify h
theorem stir_mirror {a : Array Keyed} {i j : Nat} (hj : j ≤ a.size) : Stir a (mirror a i j ((j - i) / 2)) i j :=
  ⟨mirror_perm _ _ _ _, fun k hk => by rw [getElem?_mirror_all hj, if_neg (by omega)]⟩
theorem g_mirror {a : Array Keyed} {i j k : Nat} (hj : j ≤ a.size) (h1 : i ≤ k) (h2 : k < j) : g (mirror a i j ((j - i) / 2)) k = g a (i + j - 1 - k) := by
  apply g_congr
  rw [getElem?_mirror_all hj, if_pos ⟨h1, h2⟩]

theorem wpS_asc (O : Ord M A E s kd Ok R) {st : SortSt} {lo n nrem : Nat} {Q : Option (Option Nat) × Nat → SortSt → Prop} (hk : kindOf st = kd) (hA : All Ok (arrOf st)) (h1 : 1 ≤ n) (hn : n ≤ nrem) (hsz : lo + nrem ≤ (arrOf st).size)
    (hs : Srt R (arrOf st) lo (lo + n))
    (h : ∀ m, n ≤ m → m ≤ nrem → Srt R (arrOf st) lo (lo + m) → (m < nrem → R (g (arrOf st) (lo + m)) (g (arrOf st) (lo + m - 1)) = true) → Q (none, m) st)
    {f : Nat → Option (Option Nat) × Nat → StateT SortSt Sem (ForInStep (Option (Option Nat) × Nat))}
    (hf : ∀ x c, f x c = (do
      let r ← ltAt' (lo + c.2) (lo + c.2 - 1)
      match r with
      | some smaller => if smaller = true then pure (ForInStep.done (none, c.2)) else pure (ForInStep.yield (none, c.2 + 1))
      | _ => pure (ForInStep.done (some none, c.2)))) : wpS M A E s (forIn [n:nrem] (none, n) f) Q st := by
  refine wpS_forRange (I := fun x c st' => st' = st ∧ c = (none, x) ∧ x ≤ nrem ∧ Srt R (arrOf st) lo (lo + x)) ?_ ?_ ⟨rfl, rfl, hn, hs⟩
  · rintro x c st' hx1 hx2 ⟨rfl, rfl, hx, hs'⟩
    rw [hf]
    try dsimp only
    refine wpS_bind (wpS_at O hk hA (by omega) (by omega) ?_)
    cases e : R (g (arrOf st') (lo + x)) (g (arrOf st') (lo + x - 1)) with
    | true =>
      try dsimp only
      rw [if_pos rfl]
      exact wpS_pure (h x hx1 (by omega) hs' fun _ => e)
    | false =>
      try dsimp only
      rw [if_neg Bool.false_ne_true]
      refine wpS_pure ⟨rfl, rfl, by omega, fun i j a b c => ?_⟩
      by_cases hj : j < lo + x
      · exact hs' i j a b hj
      · have ej : j = lo + x := by omega
        subst ej
        by_cases hi : i = lo + x
        · subst hi; exact O.refl _
        · exact O.trans (hs' i (lo + x - 1) a (by omega) (by omega)) e
  · rintro c st' ⟨rfl, rfl, hx, hs'⟩
    rw [show max n nrem = nrem by omega] at *
    exact h nrem hn (Nat.le_refl _) hs' fun z => absurd z (Nat.lt_irrefl _)

theorem wpS_desc (O : Ord M A E s kd Ok R) {st : SortSt} {lo n nrem : Nat} {Q : Option (Option Nat) × Nat × Nat → SortSt → Prop} (hk : kindOf st = kd) (hA : All Ok (arrOf st)) (h1 : 1 ≤ n) (hn : n ≤ nrem) (hsz : lo + nrem ≤ (arrOf st).size)
    (hs : Dec R (arrOf st) lo (lo + n))
    (h : ∀ m q a', n ≤ m → m ≤ nrem → q + 1 ≤ m → Stir (arrOf st) a' lo (lo + nrem) → Dec R a' lo (lo + m) → (∀ k, lo + m - (q + 1) ≤ k → k < lo + m → le R (g a' k) (g a' (lo + m - 1))) → Q (none, m, q) (setArr st a'))
    {f : Nat → Option (Option Nat) × Nat × Nat → StateT SortSt Sem (ForInStep (Option (Option Nat) × Nat × Nat))}
    (hf : ∀ x c, f x c = (do
      let r ← ltAt' (lo + c.2.1) (lo + c.2.1 - 1)
      match r with
      | some smaller =>
        if smaller = true then
          if c.2.2 > 0 then do
            reverseSlice' (lo + c.2.1 - (c.2.2 + 1)) (lo + c.2.1)
            pure (ForInStep.yield (none, c.2.1 + 1, 0))
          else pure (ForInStep.yield (none, c.2.1 + 1, 0))
        else do
          let r ← ltAt' (lo + c.2.1 - 1) (lo + c.2.1)
          match r with
          | some larger =>
            if larger = true then pure (ForInStep.done (none, c.2.1, c.2.2))
            else pure (ForInStep.yield (none, c.2.1 + 1, c.2.2 + 1))
          | _ => pure (ForInStep.done (some none, c.2.1, c.2.2))
      | _ => pure (ForInStep.done (some none, c.2.1, c.2.2)))) : wpS M A E s (forIn [n:nrem] (none, n, 0) f) Q st := by
  have dec1 : ∀ {a : Array Keyed} {m : Nat}, Dec R a lo (lo + m) → 1 ≤ m → le R (g a (lo + m)) (g a (lo + m - 1)) → Dec R a lo (lo + (m + 1)) := fun {a m} hd hm hl i j h1 h2 h3 => by
    by_cases hj : j < lo + m
    · exact hd i j h1 h2 hj
    · have ej : j = lo + m := by omega
      subst ej
      by_cases hi : i = lo + m
      · subst hi; exact O.refl _
      · exact O.trans hl (hd i (lo + m - 1) h1 (by omega) (by omega))
  refine wpS_forRange (I := fun x c st' => ∃ q a', st' = setArr st a' ∧ c = (none, x, q) ∧ x ≤ nrem ∧ q + 1 ≤ x ∧ Stir (arrOf st) a' lo (lo + nrem) ∧ Dec R a' lo (lo + x) ∧
    (∀ k, lo + x - (q + 1) ≤ k → k < lo + x → le R (g a' k) (g a' (lo + x - 1)))) ?_ ?_ ⟨0, arrOf st, rfl, rfl, hn, h1, Stir.refl _ _ _, hs, fun k k1 k2 => ?_⟩
  · rintro x c st' hx1 hx2 ⟨q, a', rfl, rfl, hx, hq, hS, hd, he⟩
    have hz := hS.size
    have hA' := hA.perm hS.perm
    rw [hf]
    try dsimp only
    refine wpS_bind (wpS_at O (st := setArr st a') hk hA' (by show lo + x < a'.size; omega) (by show lo + x - 1 < a'.size; omega) ?_)
    try dsimp only
    cases e : R (g a' (lo + x)) (g a' (lo + x - 1)) with
    | true =>
      try dsimp only
      rw [if_pos rfl]
      have hl := O.le_of_lt e
      by_cases h0 : q > 0
      · rw [if_pos h0]
        refine wpS_bind (wpS_rev ?_)
        refine wpS_pure ⟨0, mirror a' (lo + x - (q + 1)) (lo + x) ((lo + x - (lo + x - (q + 1))) / 2), rfl, rfl, by omega, by omega, hS.trans ((stir_mirror (by omega)).mono (by omega) (by omega)), ?_, fun k k1 k2 => ?_⟩
        · -- all of the turned stretch are alike
          have al : ∀ k, lo + x - (q + 1) ≤ k → k < lo + x → le R (g a' k) (g a' (lo + x - 1)) ∧ le R (g a' (lo + x - 1)) (g a' k) := fun k k1 k2 => ⟨he k k1 k2, hd k (lo + x - 1) (by omega) (by omega) (by omega)⟩
          refine dec1 (fun i j i1 i2 i3 => ?_) (by omega) ?_
          · have gi : le R (g (mirror a' (lo + x - (q + 1)) (lo + x) ((lo + x - (lo + x - (q + 1))) / 2)) i) (g a' i) ∧ le R (g a' i) (g (mirror a' (lo + x - (q + 1)) (lo + x) ((lo + x - (lo + x - (q + 1))) / 2)) i) := by
              by_cases hi : lo + x - (q + 1) ≤ i
              · rw [g_mirror (by omega) hi (by omega)]
                have p1 := al (lo + x - (q + 1) + (lo + x) - 1 - i) (by omega) (by omega)
                have p2 := al i hi (by omega)
                exact ⟨O.trans p1.1 p2.2, O.trans p2.1 p1.2⟩
              · rw [g_congr ((stir_mirror (by omega)).keep i (by omega))]
                exact ⟨O.refl _, O.refl _⟩
            have gj : le R (g (mirror a' (lo + x - (q + 1)) (lo + x) ((lo + x - (lo + x - (q + 1))) / 2)) j) (g a' j) ∧ le R (g a' j) (g (mirror a' (lo + x - (q + 1)) (lo + x) ((lo + x - (lo + x - (q + 1))) / 2)) j) := by
              by_cases hi : lo + x - (q + 1) ≤ j
              · rw [g_mirror (by omega) hi (by omega)]
                have p1 := al (lo + x - (q + 1) + (lo + x) - 1 - j) (by omega) (by omega)
                have p2 := al j hi (by omega)
                exact ⟨O.trans p1.1 p2.2, O.trans p2.1 p1.2⟩
              · rw [g_congr ((stir_mirror (by omega)).keep j (by omega))]
                exact ⟨O.refl _, O.refl _⟩
            exact O.trans gj.1 (O.trans (hd i j i1 i2 i3) gi.2)
          · rw [g_congr ((stir_mirror (by omega)).keep (lo + x) (by omega)), g_mirror (by omega) (by omega) (by omega)]
            exact O.trans hl (al _ (by omega) (by omega)).2
        · have ek : k = lo + (x + 1) - 1 := by omega
          subst ek; exact O.refl _
      · rw [if_neg h0]
        refine wpS_pure ⟨0, a', rfl, rfl, by omega, by omega, hS, dec1 hd (by omega) hl, fun k k1 k2 => ?_⟩
        have ek : k = lo + (x + 1) - 1 := by omega
        subst ek; exact O.refl _
    | false =>
      try dsimp only
      rw [if_neg Bool.false_ne_true]
      refine wpS_bind (wpS_at O (st := setArr st a') hk hA' (by show lo + x - 1 < a'.size; omega) (by show lo + x < a'.size; omega) ?_)
      try dsimp only
      cases e2 : R (g a' (lo + x - 1)) (g a' (lo + x)) with
      | true =>
        try dsimp only
        rw [if_pos rfl]
        exact wpS_pure (h x q a' hx1 (by omega) hq hS hd he)
      | false =>
        try dsimp only
        rw [if_neg Bool.false_ne_true]
        refine wpS_pure ⟨q + 1, a', rfl, rfl, by omega, by omega, hS, dec1 hd (by omega) e2, fun k k1 k2 => ?_⟩
        rw [show lo + (x + 1) - 1 = lo + x by omega]
        by_cases ek : k = lo + x
        · subst ek; exact O.refl _
        · exact O.trans (he k (by omega) (by omega)) e
  · rintro c st' ⟨q, a', rfl, rfl, hx, hq, hS, hd, he⟩
    rw [show max n nrem = nrem by omega] at *
    exact h nrem q a' hn (Nat.le_refl _) hq hS hd he
  · have ek : k = lo + n - 1 := by omega
    subst ek; exact O.refl _
end
end Tim

end
section
set_option autoImplicit false
set_option autoImplicit false
set_option linter.all false
namespace Tim
open PySem PyProof.Rows
section
variable {M : Model} {A : Around} {E : Value → Shared → Prop} {s : Shared} {kd : SortKind} {Ok : Keyed → Prop} {R : Keyed → Keyed → Bool}

theorem Dec.turned (O : Ord M A E s kd Ok R) {a : Array Keyed} {lo hi : Nat} (h : Dec R a lo hi) (hz : hi ≤ a.size) : Srt R (mirror a lo hi ((hi - lo) / 2)) lo hi := fun i j h1 h2 h3 => by
  rw [g_mirror hz h1 (by omega), g_mirror hz (by omega) h3]
  exact h _ _ (by omega) (by omega) (by omega)

theorem wpS_run (O : Ord M A E s kd Ok R) {st : SortSt} {lo nrem : Nat} {Q : Option Nat → SortSt → Prop} (hk : kindOf st = kd) (hA : All Ok (arrOf st)) (h1 : 1 ≤ nrem) (hsz : lo + nrem ≤ (arrOf st).size)
    (h : ∀ n a', Stir (arrOf st) a' lo (lo + nrem) → 1 ≤ n → n ≤ nrem → Srt R a' lo (lo + n) → Q (some n) (setArr st a')) : wpS M A E s (countRun' lo nrem) Q st := by
  have fall : ∀ (a : Array Keyed) (n : Nat), Stir (arrOf st) a lo (lo + nrem) → 1 ≤ n → n < nrem → Dec R a lo (lo + (n + 1)) →
      ∀ {k : Option (Option Nat) × Nat × Nat → StateT SortSt Sem (Option Nat)}, (∀ c : Option (Option Nat) × Nat × Nat, c.1 = none → k c = (do
        if c.2.2 > 0 then do
          reverseSlice' (lo + c.2.1 - (c.2.2 + 1)) (lo + c.2.1)
          reverseSlice' lo (lo + c.2.1)
          let r ← forIn [c.2.1:nrem] ((none, c.2.1) : Option (Option Nat) × Nat) fun _ d => do
            let r ← ltAt' (lo + d.2) (lo + d.2 - 1)
            match r with
            | some smaller => if smaller = true then pure (ForInStep.done (none, d.2)) else pure (ForInStep.yield (none, d.2 + 1))
            | _ => pure (ForInStep.done (some none, d.2))
          match r.1 with
          | some r => pure r
          | none => pure (some r.2)
        else do
          reverseSlice' lo (lo + c.2.1)
          let r ← forIn [c.2.1:nrem] ((none, c.2.1) : Option (Option Nat) × Nat) fun _ d => do
            let r ← ltAt' (lo + d.2) (lo + d.2 - 1)
            match r with
            | some smaller => if smaller = true then pure (ForInStep.done (none, d.2)) else pure (ForInStep.yield (none, d.2 + 1))
            | _ => pure (ForInStep.done (some none, d.2))
          match r.1 with
          | some r => pure r
          | none => pure (some r.2))) →
      ∀ {f : Nat → Option (Option Nat) × Nat × Nat → StateT SortSt Sem (ForInStep (Option (Option Nat) × Nat × Nat))}, (∀ x c, f x c = (do
        let r ← ltAt' (lo + c.2.1) (lo + c.2.1 - 1)
        match r with
        | some smaller =>
          if smaller = true then
            if c.2.2 > 0 then do
              reverseSlice' (lo + c.2.1 - (c.2.2 + 1)) (lo + c.2.1)
              pure (ForInStep.yield (none, c.2.1 + 1, 0))
            else pure (ForInStep.yield (none, c.2.1 + 1, 0))
          else do
            let r ← ltAt' (lo + c.2.1 - 1) (lo + c.2.1)
            match r with
            | some larger =>
              if larger = true then pure (ForInStep.done (none, c.2.1, c.2.2))
              else pure (ForInStep.yield (none, c.2.1 + 1, c.2.2 + 1))
            | _ => pure (ForInStep.done (some none, c.2.1, c.2.2))
        | _ => pure (ForInStep.done (some none, c.2.1, c.2.2)))) → wpS M A E s (forIn [n + 1:nrem] (none, n + 1, 0) f >>= k) Q (setArr st a) := by
    intro a n hS hn1 hn2 hd k hkk f hf
    have hz := hS.size
    have tail : ∀ (b : Array Keyed) (m : Nat), Stir (arrOf st) b lo (lo + nrem) → 1 ≤ m → m ≤ nrem → Dec R b lo (lo + m) → wpS M A E s (do
        reverseSlice' lo (lo + m)
        let r ← forIn [m:nrem] ((none, m) : Option (Option Nat) × Nat) fun _ d => do
          let r ← ltAt' (lo + d.2) (lo + d.2 - 1)
          match r with
          | some smaller => if smaller = true then pure (ForInStep.done (none, d.2)) else pure (ForInStep.yield (none, d.2 + 1))
          | _ => pure (ForInStep.done (some none, d.2))
        match r.1 with
        | some r => pure r
        | none => pure (some r.2)) Q (setArr st b) := by
      intro b m hS hm1 hm2 hd
      have hz := hS.size
      refine wpS_bind (wpS_rev ?_)
      have hS2 : Stir (arrOf st) (mirror b lo (lo + m) ((lo + m - lo) / 2)) lo (lo + nrem) := hS.trans ((stir_mirror (by omega)).mono (Nat.le_refl _) (by omega))
      refine wpS_bind (wpS_asc O (st := setArr st (mirror b lo (lo + m) ((lo + m - lo) / 2))) hk (hA.perm hS2.perm) hm1 hm2 (by show lo + nrem ≤ (mirror b lo (lo + m) ((lo + m - lo) / 2)).size; rw [hS2.size]; exact hsz)
        (hd.turned O (by omega)) (fun q q1 q2 q3 _ => ?_) fun _ _ => rfl)
      exact wpS_pure (h q _ hS2 (by omega) q2 q3)
    refine wpS_bind (wpS_desc O (st := setArr st a) hk (hA.perm hS.perm) (by omega) (by omega) (by show lo + nrem ≤ a.size; omega) hd (fun m q b m1 m2 m3 hS2 hd2 he => ?_) hf)
    rw [hkk _ rfl]
    have hS3 := hS.trans hS2
    have hz3 := hS3.size
    dsimp only
    by_cases h0 : q > 0
    · rw [if_pos h0]
      refine wpS_bind (wpS_rev ?_)
      refine tail (mirror b (lo + m - (q + 1)) (lo + m) ((lo + m - (lo + m - (q + 1))) / 2)) m (hS3.trans ((stir_mirror (by omega)).mono (by omega) (by omega))) (by omega) m2 ?_
      have al : ∀ k, lo + m - (q + 1) ≤ k → k < lo + m → le R (g b k) (g b (lo + m - 1)) ∧ le R (g b (lo + m - 1)) (g b k) := fun k k1 k2 => ⟨he k k1 k2, hd2 k (lo + m - 1) (by omega) (by omega) (by omega)⟩
      have same : ∀ i, lo ≤ i → i < lo + m → le R (g (mirror b (lo + m - (q + 1)) (lo + m) ((lo + m - (lo + m - (q + 1))) / 2)) i) (g b i) ∧ le R (g b i) (g (mirror b (lo + m - (q + 1)) (lo + m) ((lo + m - (lo + m - (q + 1))) / 2)) i) := fun i i1 i2 => by
        by_cases hi : lo + m - (q + 1) ≤ i
        · rw [g_mirror (by omega) hi (by omega)]
          have p1 := al (lo + m - (q + 1) + (lo + m) - 1 - i) (by omega) (by omega)
          have p2 := al i hi (by omega)
          exact ⟨O.trans p1.1 p2.2, O.trans p2.1 p1.2⟩
        · rw [g_congr ((stir_mirror (by omega)).keep i (by omega))]
          exact ⟨O.refl _, O.refl _⟩
      exact fun i j i1 i2 i3 => O.trans (same j (by omega) i3).1 (O.trans (hd2 i j i1 i2 i3) (same i i1 (by omega)).2)
    · rw [if_neg h0]
      exact tail b m hS3 (by omega) m2 hd2
  rw [countRun'_eq]
  refine wpS_bind (wpS_asc O hk hA (Nat.le_refl 1) h1 hsz (fun i j a b c => by have : i = j := by omega
                                                                               subst this; exact O.refl _) (fun m m1 m2 hs hbk => ?_) fun _ _ => rfl)
  dsimp only
  by_cases e : m = nrem
  · rw [if_pos (by simp [e])]
    exact wpS_pure (h m _ (Stir.refl _ _ _) (by omega) m2 hs)
  · rw [if_neg (by simp [e])]
    have hb := hbk (by omega)
    have dec2 : ∀ a : Array Keyed, Dec R a lo (lo + m) → le R (g a (lo + m)) (g a (lo + m - 1)) → Dec R a lo (lo + (m + 1)) := fun a hd hl i j h1 h2 h3 => by
      by_cases hj : j < lo + m
      · exact hd i j h1 h2 hj
      · have ej : j = lo + m := by omega
        subst ej
        by_cases hi : i = lo + m
        · subst hi; exact O.refl _
        · exact O.trans hl (hd i (lo + m - 1) h1 (by omega) (by omega))
    by_cases g1 : m > 1
    · rw [if_pos g1]
      refine wpS_bind (wpS_at O hk hA (by omega) (by omega) ?_)
      cases e2 : R (g (arrOf st) lo) (g (arrOf st) (lo + m - 1)) with
      | true =>
        try dsimp only
        rw [if_pos rfl]
        exact wpS_pure (h m _ (Stir.refl _ _ _) (by omega) m2 hs)
      | false =>
        try dsimp only
        rw [if_neg Bool.false_ne_true]
        refine wpS_bind (wpS_rev ?_)
        refine wpS_bind (wpS_lift (wpAny_rule ⟨rfl, ?_⟩))
        refine fall (mirror (arrOf st) lo (lo + m) ((lo + m - lo) / 2)) m ((stir_mirror (by omega)).mono (Nat.le_refl _) (by omega)) (by omega) (by omega) (dec2 _ (fun i j i1 i2 i3 => ?_) ?_) (fun c hc => ?_) fun _ _ => rfl
        · rw [g_mirror (by omega) i1 (by omega), g_mirror (by omega) (by omega) i3]
          exact O.trans (hs _ (lo + m - 1) (by omega) (by omega) (by omega)) (O.trans e2 (hs lo _ (Nat.le_refl _) (by omega) (by omega)))
        · rw [g_congr ((stir_mirror (by omega)).keep (lo + m) (by omega)), g_mirror (by omega) (by omega) (by omega)]
          exact O.trans (O.le_of_lt hb) (O.trans e2 (hs lo _ (Nat.le_refl _) (by omega) (by omega)))
        · obtain ⟨c1, c2, c3⟩ := c
          cases hc
          dsimp only
          split
          · congr 1; funext _; congr 1; funext _; congr 1; funext d; obtain ⟨d1, d2⟩ := d; cases d1 <;> rfl
          · congr 1; funext _; congr 1; funext d; obtain ⟨d1, d2⟩ := d; cases d1 <;> rfl
    · rw [if_neg g1]
      refine wpS_bind (wpS_lift (wpAny_rule ⟨rfl, ?_⟩))
      have em : m = 1 := by omega
      refine fall (arrOf st) m (Stir.refl _ _ _) (by omega) (by omega) (dec2 _ (fun i j i1 i2 i3 => ?_) (O.le_of_lt hb)) (fun c hc => ?_) fun _ _ => rfl
      · have : i = j := by omega
        subst this; exact O.refl _
      · obtain ⟨c1, c2, c3⟩ := c
        cases hc
        dsimp only
        split
        · congr 1; funext _; congr 1; funext _; congr 1; funext d; obtain ⟨d1, d2⟩ := d; cases d1 <;> rfl
        · congr 1; funext _; congr 1; funext d; obtain ⟨d1, d2⟩ := d; cases d1 <;> rfl

theorem wpS_bin (O : Ord M A E s kd Ok R) {st : SortSt} {lo n ok : Nat} {Q : Bool → SortSt → Prop} (hk : kindOf st = kd) (hA : All Ok (arrOf st)) (hok : ok ≤ n) (hsz : lo + n ≤ (arrOf st).size) (hs : Srt R (arrOf st) lo (lo + ok))
    (h : ∀ a', Stir (arrOf st) a' lo (lo + n) → Srt R a' lo (lo + n) → Q true (setArr st a')) : wpS M A E s (binarySort' lo n ok) Q st := by
  rw [binarySort'_eq]
  refine wpS_bind (wpS_mono (wpS_forRange (I := fun k c st' => ∃ a', st' = setArr st a' ∧ c = (none, ()) ∧ Stir (arrOf st) a' lo (lo + n) ∧ Srt R a' lo (lo + min k n))
    (Q := fun c st' => ∃ a', st' = setArr st a' ∧ c = (none, ()) ∧ Stir (arrOf st) a' lo (lo + n) ∧ Srt R a' lo (lo + n)) ?step ?fin ?init) ?post)
  case post =>
    rintro c st' ⟨a', rfl, rfl, hS, hs'⟩
    exact wpS_pure (h a' hS hs')
  case init =>
    refine ⟨arrOf st, rfl, rfl, Stir.refl _ _ _, fun i j h1 h2 h3 => ?_⟩
    by_cases e : ok = 0
    · have : i = j := by omega
      subst this; exact O.refl _
    · exact hs i j h1 h2 (by omega)
  case fin =>
    rintro c st' ⟨a', e1, e2, hS, hs'⟩
    refine ⟨a', e1, e2, hS, ?_⟩
    rwa [show min (max (max ok 1) n) n = n by omega] at hs'
  case step =>
    rintro k c st' hak hkn ⟨a', rfl, rfl, hS, hs'⟩
    rw [show min k n = k by omega] at hs'
    have hz := hS.size
    have hA' := hA.perm hS.perm
    refine wpS_bind (wpS_mono (wpS_forRange (I := fun x c st'' => st'' = setArr st a' ∧ ∃ l r, c = (none, l, r) ∧ l ≤ r ∧ r ≤ k ∧ r - l ≤ k - x ∧
        (∀ i, i < l → le R (g a' (lo + i)) (g a' (lo + k))) ∧ (∀ i, r ≤ i → i < k → le R (g a' (lo + k)) (g a' (lo + i))))
      (Q := fun c st'' => st'' = setArr st a' ∧ ∃ l r, c = (none, l, r) ∧ l ≤ k ∧
        (∀ i, i < l → le R (g a' (lo + i)) (g a' (lo + k))) ∧ (∀ i, l ≤ i → i < k → le R (g a' (lo + k)) (g a' (lo + i)))) ?istep ?ifin ?iinit) ?ipost)
    case iinit => exact ⟨rfl, 0, k, rfl, by omega, by omega, by omega, fun i hi => by omega, fun i h1 h2 => by omega⟩
    case ifin =>
      rintro c st'' ⟨rfl, l, r, rfl, hlr, hrk, hm, hlo, hhi⟩
      have : l = r := by omega
      subst this
      exact ⟨rfl, l, l, rfl, hrk, hlo, hhi⟩
    case istep =>
      rintro x c st'' _ hxk ⟨rfl, l, r, rfl, hlr, hrk, hm, hlo, hhi⟩
      dsimp only
      by_cases hge : l ≥ r
      · rw [if_pos hge]
        have : l = r := by omega
        subst this
        exact wpS_pure ⟨rfl, l, l, rfl, hrk, hlo, hhi⟩
      · rw [if_neg hge]
        refine wpS_bind (wpS_at O (st := setArr st a') hk hA' (by show lo + k < a'.size; omega) (by show lo + (l + r) / 2 < a'.size; omega) ?_)
        try dsimp only
        cases hless : R (g a' (lo + k)) (g a' (lo + (l + r) / 2)) with
        | true =>
          try dsimp only
          rw [if_pos rfl]
          refine wpS_pure ⟨rfl, l, (l + r) / 2, rfl, by omega, by omega, by omega, hlo, fun i h1 h2 => ?_⟩
          exact O.trans (O.le_of_lt hless) (hs' (lo + (l + r) / 2) (lo + i) (by omega) (by omega) (by omega))
        | false =>
          try dsimp only
          rw [if_neg Bool.false_ne_true]
          refine wpS_pure ⟨rfl, (l + r) / 2 + 1, r, rfl, by omega, by omega, by omega, fun i h1 => ?_, hhi⟩
          exact O.trans (hs' (lo + i) (lo + (l + r) / 2) (by omega) (by omega) (by omega)) hless
    case ipost =>
      rintro c st'' ⟨rfl, l, r, rfl, hlk, hlo, hhi⟩
      show wpS _ _ _ _ (moveDown' (lo + k) (lo + l) >>= fun _ => pure (ForInStep.yield (none, ()))) _ _
      rw [moveDown'_eq]
      have hks : lo + k < a'.size := by omega
      have gb : ∀ i, g (bubble a' (lo + k) (lo + k - (lo + l))) i = if i = lo + l then g a' (lo + k) else if lo + l < i ∧ i ≤ lo + k then g a' (i - 1) else g a' i := fun i => by
        have e := getElem?_bubble hks (lo + k - (lo + l)) (by omega) i
        rw [show lo + k - (lo + k - (lo + l)) = lo + l by omega] at e
        by_cases h1 : i = lo + l
        · rw [if_pos h1] at e ⊢; exact g_congr e
        · rw [if_neg h1] at e ⊢
          by_cases h2 : lo + l < i ∧ i ≤ lo + k
          · rw [if_pos h2] at e ⊢; exact g_congr e
          · rw [if_neg h2] at e ⊢; exact g_congr e
      refine wpS_bind (wpS_modify (wpS_pure ⟨bubble a' (lo + k) (lo + k - (lo + l)), rfl, rfl, hS.trans ⟨bubble_perm _ _ _, fun i hi => ?_⟩, ?_⟩))
      · rw [getElem?_bubble hks _ (by omega), if_neg (by omega), if_neg (by omega)]
      · rw [show min (k + 1) n = k + 1 by omega]
        intro i j h1 h2 h3
        rw [gb, gb]
        have lo' : ∀ p, lo ≤ p → p < lo + l → le R (g a' p) (g a' (lo + k)) := fun p p1 p2 => by
          have := hlo (p - lo) (by omega)
          rwa [show lo + (p - lo) = p by omega] at this
        have hi' : ∀ p, lo + l ≤ p → p < lo + k → le R (g a' (lo + k)) (g a' p) := fun p p1 p2 => by
          have := hhi (p - lo) (by omega) (by omega)
          rwa [show lo + (p - lo) = p by omega] at this
        repeat' split
        all_goals first
          | (exfalso; omega)
          | exact O.refl _
          | exact lo' _ (by omega) (by omega)
          | exact hi' _ (by omega) (by omega)
          | exact hs' _ _ (by omega) (by omega) (by omega)
end
end Tim

end
section
set_option autoImplicit false
set_option autoImplicit false
set_option linter.all false
namespace Tim
open PySem PyProof.Rows
noncomputable def gallopX : Bool → Keyed → Array Keyed → Nat → Nat → Nat → StateT SortSt Sem (Option Nat) := sortPriv% PySem.Builtin.gallop
noncomputable def mergeLoX : Array Keyed → Array Keyed → StateT SortSt Sem (Array Keyed) := sortPriv% PySem.Builtin.mergeLo
noncomputable def mergeHiX : Array Keyed → Array Keyed → StateT SortSt Sem (Array Keyed) := sortPriv% PySem.Builtin.mergeHi
section
variable {M : Model} {A : Around} {E : Value → Shared → Prop} {s : Shared} {kd : SortKind} {Ok : Keyed → Prop} {R : Keyed → Keyed → Bool}
noncomputable def bey (R : Keyed → Keyed → Bool) (left : Bool) (key : Keyed) (arr : Array Keyed) (base i : Nat) : Bool := if left = true then R (g arr (base + i)) key else !(R key (g arr (base + i)))
theorem wpS_bey (O : Ord M A E s kd Ok R) {st : SortSt} {left : Bool} {key : Keyed} {arr : Array Keyed} {base i : Nat} {Q : Option Bool → SortSt → Prop} (hk : kindOf st = kd) (hy : Ok key) (hA : All Ok arr) (hi : base + i < arr.size)
    (h : Q (some (bey R left key arr base i)) st) :
    wpS M A E s (elem' arr (base + i) >>= fun x => if left = true then lt' x key else lt' key x >>= fun r => pure (Option.map (fun b => !b) r)) Q st := by
  rw [elem'_eq, g_of hi]
  refine wpS_bind (wpS_pure ?_)
  unfold bey at h
  cases left with
  | true => rw [if_pos rfl] at h ⊢; exact O.lt (hA.at hi) hy hk h
  | false => rw [if_neg Bool.false_ne_true] at h ⊢; exact wpS_bind (O.lt hy (hA.at hi) hk (wpS_pure h))

theorem gal_bin (O : Ord M A E s kd Ok R) {st : SortSt} {left : Bool} {key : Keyed} {arr : Array Keyed} {base n lo hi : Nat} {Q : Option (Option Nat) × Nat × Nat → SortSt → Prop} (hk : kindOf st = kd) (hy : Ok key) (hA : All Ok arr)
    (hsz : base + n ≤ arr.size) (mono : ∀ i j, i ≤ j → j < n → bey R left key arr base j = true → bey R left key arr base i = true)
    (h1 : lo ≤ hi) (h2 : hi ≤ n) (hl : ∀ i, i < lo → bey R left key arr base i = true) (hh : ∀ i, hi ≤ i → i < n → bey R left key arr base i = false)
    (h : ∀ r, r ≤ n → (∀ i, i < r → bey R left key arr base i = true) → (∀ i, r ≤ i → i < n → bey R left key arr base i = false) → Q (none, r, r) st)
    {f : Nat → Option (Option Nat) × Nat × Nat → StateT SortSt Sem (ForInStep (Option (Option Nat) × Nat × Nat))}
    (hf : ∀ x c, f x c = (if c.2.1 ≥ c.2.2 then pure (ForInStep.done (none, c.2.1, c.2.2)) else
      (elem' arr (base + (c.2.1 + (c.2.2 - c.2.1) / 2)) >>= fun x => if left = true then lt' x key else lt' key x >>= fun r => pure (Option.map (fun b => !b) r)) >>= fun r =>
        match r with
        | some more => if more = true then pure (ForInStep.yield (none, c.2.1 + (c.2.2 - c.2.1) / 2 + 1, c.2.2)) else pure (ForInStep.yield (none, c.2.1, c.2.1 + (c.2.2 - c.2.1) / 2))
        | _ => pure (ForInStep.done (some none, c.2.1, c.2.2)))) : wpS M A E s (forIn [:n] (none, lo, hi) f) Q st := by
  refine wpS_forRange (I := fun x c st' => st' = st ∧ ∃ l r, c = (none, l, r) ∧ l ≤ r ∧ r ≤ n ∧ r - l ≤ n - x ∧ (∀ i, i < l → bey R left key arr base i = true) ∧ (∀ i, r ≤ i → i < n → bey R left key arr base i = false)) ?_ ?_
    ⟨rfl, lo, hi, rfl, h1, h2, by omega, hl, hh⟩
  · rintro x c st' _ hx ⟨rfl, l, r, rfl, a1, a2, a3, a4, a5⟩
    rw [hf]
    dsimp only
    by_cases hge : l ≥ r
    · rw [if_pos hge]
      have : l = r := by omega
      subst this
      exact wpS_pure (h l a2 a4 a5)
    · rw [if_neg hge]
      refine wpS_bind (wpS_bey O hk hy hA (by omega) ?_)
      cases e : bey R left key arr base (l + (r - l) / 2) with
      | true =>
        try dsimp only
        rw [if_pos rfl]
        exact wpS_pure ⟨rfl, _, r, rfl, by omega, a2, by omega, fun i hi => mono i _ (by omega) (by omega) e, a5⟩
      | false =>
        try dsimp only
        rw [if_neg Bool.false_ne_true]
        refine wpS_pure ⟨rfl, l, _, rfl, by omega, by omega, by omega, a4, fun i hi1 hi2 => ?_⟩
        cases e2 : bey R left key arr base i with
        | false => rfl
        | true => rw [mono _ _ hi1 hi2 e2] at e; cases e
  · rintro c st' ⟨rfl, l, r, rfl, a1, a2, a3, a4, a5⟩
    have : l = r := by omega
    subst this
    exact h l a2 a4 a5
theorem wpS_gallop (O : Ord M A E s kd Ok R) {st : SortSt} {left : Bool} {key : Keyed} {arr : Array Keyed} {base n hint : Nat} {Q : Option Nat → SortSt → Prop} (hk : kindOf st = kd) (hy : Ok key) (hA : All Ok arr) (hn : hint < n)
    (hsz : base + n ≤ arr.size) (hs : Srt R arr base (base + n))
    (h : ∀ r, r ≤ n → (∀ i, i < r → bey R left key arr base i = true) → (∀ i, r ≤ i → i < n → bey R left key arr base i = false) → Q (some r) st) : wpS M A E s (gallopX left key arr base n hint) Q st := by
  have mono : ∀ i j, i ≤ j → j < n → bey R left key arr base j = true → bey R left key arr base i = true := fun i j hij hj e => by
    have hl := hs (base + i) (base + j) (by omega) (by omega) (by omega)
    unfold bey at e ⊢
    cases left with
    | true => rw [if_pos rfl] at e ⊢; exact O.le_lt hl e
    | false =>
      rw [if_neg Bool.false_ne_true] at e ⊢
      have e' : R key (g arr (base + j)) = false := by simpa using e
      have : R key (g arr (base + i)) = false := O.trans hl e'
      rw [this]; rfl
  have anti : ∀ i j, i ≤ j → j < n → bey R left key arr base i = false → bey R left key arr base j = false := fun i j hij hj e => by
    cases e2 : bey R left key arr base j with
    | false => rfl
    | true => rw [mono i j hij hj e2] at e; cases e
  unfold gallopX
  refine wpS_bind (wpS_bey (left := left) (key := key) (arr := arr) (base := base) (i := hint) O hk hy hA (by omega) ?_)
  cases e : bey R left key arr base hint with
  | true =>
    dsimp only
    rw [if_pos rfl]
    refine wpS_bind (wpS_mono (wpS_forRange (I := fun x c st' => st' = st ∧ ∃ la o, c = (none, la, o) ∧ la < o ∧ x + 1 ≤ o ∧ hint + la < n ∧ bey R left key arr base (hint + la) = true)
      (Q := fun c st' => st' = st ∧ ∃ la o, c = (none, la, o) ∧ la < o ∧ hint + la < n ∧ bey R left key arr base (hint + la) = true ∧ (n - hint ≤ o ∨ (hint + o < n ∧ bey R left key arr base (hint + o) = false))) ?step ?fin
      ⟨rfl, 0, 1, rfl, by omega, by omega, by omega, e⟩) ?post)
    case fin =>
      rintro c st' ⟨rfl, la, o, rfl, a1, a2, a3, a4⟩
      exact ⟨rfl, la, o, rfl, a1, a3, a4, .inl (by omega)⟩
    case step =>
      rintro x c st' _ hx ⟨rfl, la, o, rfl, a1, a2, a3, a4⟩
      dsimp only
      by_cases hge : o ≥ n - hint
      · rw [if_pos hge]
        exact wpS_pure ⟨rfl, la, o, rfl, a1, a3, a4, .inl hge⟩
      · rw [if_neg hge]
        refine wpS_bind (wpS_bey (left := left) (key := key) (arr := arr) (base := base) (i := hint + o) O hk hy hA (by omega) ?_)
        cases e2 : bey R left key arr base (hint + o) with
        | true =>
          dsimp only
          rw [if_neg (by decide)]
          exact wpS_pure ⟨rfl, o, 2 * o + 1, rfl, by omega, by omega, by omega, e2⟩
        | false =>
          dsimp only
          rw [if_pos (by decide)]
          exact wpS_pure ⟨rfl, la, o, rfl, a1, a3, a4, .inr ⟨by omega, e2⟩⟩
    case post =>
      rintro c st' ⟨rfl, la, o, rfl, a1, a3, a4, a5⟩
      dsimp only
      refine wpS_bind (gal_bin O hk hy hA hsz mono (by omega) (by omega) (fun i hi => mono i (hint + la) (by omega) a3 a4) (fun i h1 h2 => ?_) (fun r r1 r2 r3 => ?_) fun _ _ => rfl)
      · rcases a5 with z | ⟨z1, z2⟩
        · omega
        · exact anti (hint + o) i (by omega) h2 z2
      · exact wpS_pure (h r r1 r2 r3)
  | false =>
    dsimp only
    rw [if_neg Bool.false_ne_true]
    refine wpS_bind (wpS_mono (wpS_forRange (I := fun x c st' => st' = st ∧ ∃ la o, c = (none, la, o) ∧ la < o ∧ x + 1 ≤ o ∧ la ≤ hint ∧ bey R left key arr base (hint - la) = false)
      (Q := fun c st' => st' = st ∧ ∃ la o, c = (none, la, o) ∧ la < o ∧ la ≤ hint ∧ bey R left key arr base (hint - la) = false ∧ (hint + 1 ≤ o ∨ (o ≤ hint ∧ bey R left key arr base (hint - o) = true))) ?step ?fin
      ⟨rfl, 0, 1, rfl, by omega, by omega, by omega, e⟩) ?post)
    case fin =>
      rintro c st' ⟨rfl, la, o, rfl, a1, a2, a3, a4⟩
      exact ⟨rfl, la, o, rfl, a1, a3, a4, .inl (by omega)⟩
    case step =>
      rintro x c st' _ hx ⟨rfl, la, o, rfl, a1, a2, a3, a4⟩
      dsimp only
      by_cases hge : o ≥ hint + 1
      · rw [if_pos hge]
        exact wpS_pure ⟨rfl, la, o, rfl, a1, a3, a4, .inl hge⟩
      · rw [if_neg hge]
        refine wpS_bind (wpS_bey (left := left) (key := key) (arr := arr) (base := base) (i := hint - o) O hk hy hA (by omega) ?_)
        cases e2 : bey R left key arr base (hint - o) with
        | true =>
          dsimp only
          rw [if_pos rfl]
          exact wpS_pure ⟨rfl, la, o, rfl, a1, a3, a4, .inr ⟨by omega, e2⟩⟩
        | false =>
          dsimp only
          rw [if_neg Bool.false_ne_true]
          exact wpS_pure ⟨rfl, o, 2 * o + 1, rfl, by omega, by omega, by omega, e2⟩
    case post =>
      rintro c st' ⟨rfl, la, o, rfl, a1, a3, a4, a5⟩
      dsimp only
      refine wpS_bind (gal_bin O hk hy hA hsz mono (by omega) (by omega) (fun i hi => ?_) (fun i h1 h2 => anti (hint - la) i h1 h2 a4) (fun r r1 r2 r3 => ?_) fun _ _ => rfl)
      · rcases a5 with z | ⟨z1, z2⟩
        · omega
        · exact mono i (hint - o) (by omega) (by omega) z2
      · exact wpS_pure (h r r1 r2 r3)
end
end Tim

end
section
set_option autoImplicit false
set_option autoImplicit false
set_option linter.all false
namespace Tim
open PySem PyProof.Rows
theorem ext_all (a : Array Keyed) (i : Nat) : (a.extract i a.size).toList = a.toList.drop i := by
  rw [Array.toList_extract, List.extract_eq_take_drop]
  exact List.take_of_length_le (by simp)
theorem ext_cut (a : Array Keyed) (i k : Nat) : (a.extract i (i + k)).toList = (a.toList.drop i).take k := by
  rw [Array.toList_extract, List.extract_eq_take_drop, Nat.add_sub_cancel_left]
theorem ext_head (a : Array Keyed) (n : Nat) : (a.extract 0 n).toList = a.toList.take n := by
  rw [Array.toList_extract, List.extract_eq_take_drop]
  simp
theorem g_list {a : Array Keyed} {i : Nat} (h : i < a.size) : a.toList[i]? = some (g a i) := by
  rw [Array.getElem?_toList]; exact g_of h
theorem drop_g {a : Array Keyed} {i : Nat} (h : i < a.size) : a.toList.drop i = g a i :: a.toList.drop (i + 1) := by
  have hl : i < a.toList.length := by simpa using h
  rw [List.drop_eq_getElem_cons hl]
  congr 1
  have := g_list h
  rw [List.getElem?_eq_getElem hl] at this
  exact Option.some.inj this
theorem mem_drop {a : Array Keyed} {i : Nat} {x : Keyed} (h : x ∈ a.toList.drop i) : ∃ j, i ≤ j ∧ j < a.size ∧ x = g a j := by
  obtain ⟨k, hk, e⟩ := List.mem_iff_getElem.mp h
  have hk' : i + k < a.size := by
    have : k < a.toList.length - i := by simpa using hk
    simp at this; omega
  refine ⟨i + k, by omega, hk', ?_⟩
  have e2 : (a.toList.drop i)[k]? = some x := by rw [List.getElem?_eq_getElem hk, e]
  rw [List.getElem?_drop, g_list hk'] at e2
  exact (Option.some.inj e2).symm
theorem mem_cut {a : Array Keyed} {i k : Nat} {x : Keyed} (h : x ∈ (a.toList.drop i).take k) : ∃ j, i ≤ j ∧ j < a.size ∧ j < i + k ∧ x = g a j := by
  obtain ⟨q, hq, e⟩ := List.mem_iff_getElem.mp h
  have h1 : q < k := by simp at hq; omega
  have h2 : i + q < a.size := by simp at hq; omega
  refine ⟨i + q, by omega, h2, by omega, ?_⟩
  have e2 : ((a.toList.drop i).take k)[q]? = some x := by rw [List.getElem?_eq_getElem hq, e]
  rw [List.getElem?_take_of_lt h1, List.getElem?_drop, g_list h2] at e2
  exact (Option.some.inj e2).symm
theorem mem_take {a : Array Keyed} {n : Nat} {x : Keyed} (h : x ∈ a.toList.take n) : ∃ j, j < n ∧ j < a.size ∧ x = g a j := by
  have h' : x ∈ (a.toList.drop 0).take n := by simpa using h
  obtain ⟨j, _, h2, h3, e⟩ := mem_cut h'
  exact ⟨j, by omega, h2, e⟩
noncomputable abbrev setG (st : SortSt) (q : Nat) : SortSt := SortSt.mk' (kindOf st) (arrOf st) (pendingOf st) q (failedOf st)
section
variable {M : Model} {A : Around} {E : Value → Shared → Prop} {s : Shared} {kd : SortKind} {Ok : Keyed → Prop} {R : Keyed → Keyed → Bool}
theorem wpS_elem {st : SortSt} {arr : Array Keyed} {i : Nat} {Q : Keyed → SortSt → Prop} (hi : i < arr.size) (h : Q (g arr i) st) : wpS M A E s (elem' arr i) Q st := by
  rw [elem'_eq, g_of hi]
  exact wpS_pure h
noncomputable def Fin (R : Keyed → Keyed → Bool) (a b res : Array Keyed) : Prop := res.toList.Perm (a.toList ++ b.toList) ∧ res.toList.Pairwise (le R)
structure ML (R : Keyed → Keyed → Bool) (a b out : Array Keyed) (ia ib : Nat) : Prop where
  perm : (out.toList ++ (a.toList.drop ia ++ b.toList.drop ib)).Perm (a.toList ++ b.toList)
  sa : (out.toList ++ a.toList.drop ia).Pairwise (le R)
  sb : (out.toList ++ b.toList.drop ib).Pairwise (le R)
theorem ML.doneB {a b out : Array Keyed} {ia ib : Nat} (h : ML R a b out ia ib) (e : ib = b.size) : Fin R a b (out ++ a.extract ia a.size ++ b.extract ib b.size) := by
  have e1 : (out ++ a.extract ia a.size ++ b.extract ib b.size).toList = out.toList ++ a.toList.drop ia := by
    rw [Array.toList_append, Array.toList_append, ext_all, ext_all, e, List.drop_of_length_le (l := b.toList) (by simp), List.append_nil]
  have e2 : b.toList.drop ib = [] := by rw [e]; exact List.drop_of_length_le (by simp)
  have p := h.perm
  rw [e2, List.append_nil] at p
  exact ⟨by rw [e1]; exact p, by rw [e1]; exact h.sa⟩
theorem ML.doneA {a b out : Array Keyed} {ia ib : Nat} (h : ML R a b out ia ib) (e : ia = a.size) : Fin R a b (out ++ a.extract ia a.size ++ b.extract ib b.size) := by
  have e2 : a.toList.drop ia = [] := by rw [e]; exact List.drop_of_length_le (by simp)
  have e1 : (out ++ a.extract ia a.size ++ b.extract ib b.size).toList = out.toList ++ b.toList.drop ib := by
    rw [Array.toList_append, Array.toList_append, ext_all, ext_all, e2, List.append_nil]
  have p := h.perm
  rw [e2, List.nil_append] at p
  exact ⟨by rw [e1]; exact p, by rw [e1]; exact h.sb⟩
theorem ML.last (O : Ord M A E s kd Ok R) {a b out : Array Keyed} {ia ib : Nat} (h : ML R a b out ia ib) (e : ia + 1 = a.size) (hl : ∀ y ∈ b.toList, R y (g a (a.size - 1)) = true) : Fin R a b (out ++ b.extract ib b.size ++ a.extract ia a.size) := by
  have e1 : (out ++ b.extract ib b.size ++ a.extract ia a.size).toList = (out.toList ++ b.toList.drop ib) ++ a.toList.drop ia := by
    rw [Array.toList_append, Array.toList_append, ext_all, ext_all]
  have e2 : a.toList.drop ia = [g a ia] := by rw [drop_g (by omega), List.drop_of_length_le (by simp; omega)]
  have e3 : g a (a.size - 1) = g a ia := by rw [← e, Nat.add_sub_cancel]
  refine ⟨?_, ?_⟩
  · rw [e1, List.append_assoc]
    exact (List.Perm.append_left _ List.perm_append_comm).trans h.perm
  · rw [e1, e2, List.pairwise_append]
    refine ⟨h.sb, by simp, fun x hx y hy => ?_⟩
    have ey : y = g a ia := by simpa using hy
    subst ey
    rcases List.mem_append.mp hx with z | z
    · have := h.sa
      rw [e2, List.pairwise_append] at this
      exact this.2.2 x z _ (by simp)
    · have := hl x (List.mem_of_mem_drop z)
      rw [e3] at this
      exact O.le_of_lt this
theorem ML.takeBs {a b out : Array Keyed} {ia ib k : Nat} (h : ML R a b out ia ib) (hx : ∀ y ∈ (b.toList.drop ib).take k, ∀ x ∈ a.toList.drop ia, le R y x) : ML R a b (out ++ b.extract ib (ib + k)) ia (ib + k) := by
  have e1 : (out ++ b.extract ib (ib + k)).toList = out.toList ++ (b.toList.drop ib).take k := by rw [Array.toList_append, ext_cut]
  have e2 : b.toList.drop (ib + k) = (b.toList.drop ib).drop k := by rw [List.drop_drop]
  have e3 : (b.toList.drop ib).take k ++ (b.toList.drop ib).drop k = b.toList.drop ib := List.take_append_drop _ _
  refine ⟨?_, ?_, ?_⟩
  · rw [e1, e2]
    refine List.Perm.trans ?_ h.perm
    rw [List.append_assoc]
    refine List.Perm.append_left _ ?_
    rw [← List.append_assoc]
    refine (List.Perm.append_right _ List.perm_append_comm).trans ?_
    rw [List.append_assoc, e3]
  · rw [e1, List.append_assoc, List.pairwise_append]
    have p1 := List.pairwise_append.mp h.sa
    have p2 := h.sb
    rw [← e3, List.pairwise_append] at p2
    refine ⟨p1.1, ?_, fun x hx' y hy => ?_⟩
    · rw [List.pairwise_append]
      exact ⟨(List.pairwise_append.mp p2.2.1).1, p1.2.1, hx⟩
    · rcases List.mem_append.mp hy with z | z
      · exact p2.2.2 x hx' y (List.mem_append_left _ z)
      · exact p1.2.2 x hx' y z
  · rw [e1, e2, List.append_assoc, e3]
    exact h.sb
theorem ML.takeAs {a b out : Array Keyed} {ia ib k : Nat} (h : ML R a b out ia ib) (hx : ∀ x ∈ (a.toList.drop ia).take k, ∀ y ∈ b.toList.drop ib, le R x y) : ML R a b (out ++ a.extract ia (ia + k)) (ia + k) ib := by
  have e1 : (out ++ a.extract ia (ia + k)).toList = out.toList ++ (a.toList.drop ia).take k := by rw [Array.toList_append, ext_cut]
  have e2 : a.toList.drop (ia + k) = (a.toList.drop ia).drop k := by rw [List.drop_drop]
  have e3 : (a.toList.drop ia).take k ++ (a.toList.drop ia).drop k = a.toList.drop ia := List.take_append_drop _ _
  refine ⟨?_, ?_, ?_⟩
  · rw [e1, e2, List.append_assoc, ← List.append_assoc ((a.toList.drop ia).take k), e3]
    exact h.perm
  · rw [e1, e2, List.append_assoc, e3]
    exact h.sa
  · rw [e1, List.append_assoc, List.pairwise_append]
    have p1 := List.pairwise_append.mp h.sb
    have p2 := h.sa
    rw [← e3, List.pairwise_append] at p2
    refine ⟨p1.1, ?_, fun x hx' y hy => ?_⟩
    · rw [List.pairwise_append]
      exact ⟨(List.pairwise_append.mp p2.2.1).1, p1.2.1, hx⟩
    · rcases List.mem_append.mp hy with z | z
      · exact p2.2.2 x hx' y (List.mem_append_left _ z)
      · exact p1.2.2 x hx' y z
theorem push_ext {a out : Array Keyed} {i : Nat} (h : i < a.size) : out.push (g a i) = out ++ a.extract i (i + 1) := by
  apply Array.toList_inj.mp
  rw [Array.toList_push, Array.toList_append, ext_cut, drop_g h]
  rfl
theorem ML.takeB {a b out : Array Keyed} {ia ib : Nat} (h : ML R a b out ia ib) (hi : ib < b.size) (hx : ∀ x ∈ a.toList.drop ia, le R (g b ib) x) : ML R a b (out.push (g b ib)) ia (ib + 1) := by
  rw [push_ext hi]
  refine h.takeBs fun y hy x hx' => ?_
  rw [drop_g hi] at hy
  have : y = g b ib := by simpa using hy
  subst this; exact hx x hx'
theorem ML.takeA {a b out : Array Keyed} {ia ib : Nat} (h : ML R a b out ia ib) (hi : ia < a.size) (hx : ∀ y ∈ b.toList.drop ib, le R (g a ia) y) : ML R a b (out.push (g a ia)) (ia + 1) ib := by
  rw [push_ext hi]
  refine h.takeAs fun y hy x hx' => ?_
  rw [drop_g hi] at hy
  have : y = g a ia := by simpa using hy
  subst this; exact hx x hx'
theorem ML.srtA (O : Ord M A E s kd Ok R) {a b out : Array Keyed} {ia ib : Nat} (h : ML R a b out ia ib) : Srt R a ia a.size := fun i j h1 h2 h3 => by
  have p := (List.pairwise_append.mp h.sa).2.1
  by_cases e : i = j
  · subst e; exact O.refl _
  · have q := List.pairwise_iff_getElem.mp p (i - ia) (j - ia) (by simp; omega) (by simp; omega) (by omega)
    have gi : (a.toList.drop ia)[i - ia]? = some (g a i) := by rw [List.getElem?_drop, show ia + (i - ia) = i by omega]; exact g_list (by omega)
    have gj : (a.toList.drop ia)[j - ia]? = some (g a j) := by rw [List.getElem?_drop, show ia + (j - ia) = j by omega]; exact g_list (by omega)
    rw [List.getElem?_eq_getElem (by simp; omega)] at gi gj
    rw [Option.some.inj gi, Option.some.inj gj] at q
    exact q
theorem ML.srtB (O : Ord M A E s kd Ok R) {a b out : Array Keyed} {ia ib : Nat} (h : ML R a b out ia ib) : Srt R b ib b.size := by
  have h' : ML R b a out ib ia := ⟨(List.Perm.append_left _ List.perm_append_comm).trans (h.perm.trans List.perm_append_comm), h.sb, h.sa⟩
  exact h'.srtA O
end
end Tim

end
section
set_option autoImplicit false
set_option autoImplicit false
set_option linter.all false
namespace Tim
open PySem PyProof.Rows
section
variable {M : Model} {A : Around} {E : Value → Shared → Prop} {s : Shared} {kd : SortKind} {Ok : Keyed → Prop} {R : Keyed → Keyed → Bool}
theorem wpS_setG {st : SortSt} {q : Nat} {Q : Unit → SortSt → Prop} (h : Q () (setG st q)) : wpS M A E s (modify fun z => setG z q : StateT SortSt Sem Unit) Q st := wpS_modify h
theorem wpS_low (O : Ord M A E s kd Ok R) {st : SortSt} {a b : Array Keyed} {Q : Array Keyed → SortSt → Prop} (hk : kindOf st = kd) (hA : All Ok a) (hB : All Ok b) (ha : 0 < a.size) (hb : 0 < b.size)
    (sa : Srt R a 0 a.size) (sb : Srt R b 0 b.size) (hf : R (g b 0) (g a 0) = true) (hl : ∀ y ∈ b.toList, R y (g a (a.size - 1)) = true)
    (h : ∀ res q, Fin R a b res → Q res (setG st q)) : wpS M A E s (mergeLoX a b) Q st := by
  have pw : ∀ {x : Array Keyed}, Srt R x 0 x.size → x.toList.Pairwise (le R) := fun {x} hs => by
    rw [List.pairwise_iff_getElem]
    intro i j hi hj hij
    have q := hs i j (Nat.zero_le _) (by omega) (by simpa using hj)
    have gi := g_list (a := x) (i := i) (by simpa using hi)
    have gj := g_list (a := x) (i := j) (by simpa using hj)
    rw [List.getElem?_eq_getElem hi] at gi
    rw [List.getElem?_eq_getElem hj] at gj
    rw [Option.some.inj gi, Option.some.inj gj]
    exact q
  have two : ∀ {out : Array Keyed} {ia ib : Nat}, ML R a b out ia ib → ia < a.size → ib < b.size → R (g b ib) (g a ia) = true → ∀ x ∈ a.toList.drop ia, le R (g b ib) x := fun {out ia ib} m h1 h2 e x hx => by
    obtain ⟨j, j1, j2, rfl⟩ := mem_drop hx
    exact O.trans (O.le_of_lt e) (m.srtA O ia j (Nat.le_refl _) j1 j2)
  have one : ∀ {out : Array Keyed} {ia ib : Nat}, ML R a b out ia ib → ia < a.size → ib < b.size → R (g b ib) (g a ia) = false → ∀ y ∈ b.toList.drop ib, le R (g a ia) y := fun {out ia ib} m h1 h2 e y hy => by
    obtain ⟨j, j1, j2, rfl⟩ := mem_drop hy
    exact O.trans e (m.srtB O ib j (Nat.le_refl _) j1 j2)
  have m0 : ML R a b #[] 0 0 := ⟨by simp, by simpa using pw sa, by simpa using pw sb⟩
  have m1 : ML R a b #[g b 0] 0 1 := m0.takeB hb (two m0 ha hb hf)
  unfold mergeLoX
  refine wpS_bind (wpS_lift (wpAny_rule ⟨rfl, ?_⟩))
  refine wpS_bind (wpS_elem hb ?_)
  try dsimp only
  by_cases c1 : 1 = b.size
  · rw [if_pos (by simp [← c1])]
    exact wpS_pure (h _ (gallopOf st) (m1.doneB c1))
  rw [if_neg (by simpa using c1)]
  by_cases c2 : 0 + 1 = a.size
  · rw [if_pos (by simp [← c2])]
    exact wpS_pure (h _ (gallopOf st) (m1.last O c2 hl))
  rw [if_neg (by simpa using c2)]
  refine wpS_bind (wpS_get ?_)
  try dsimp only
  refine wpS_bind (wpS_mono (wpS_forRange
    (I := fun x c st' => ∃ out ia ib mg q, c = (none, out, ia, ib, mg) ∧ st' = setG st q ∧ ML R a b out ia ib ∧ ia + 1 < a.size ∧ ib < b.size ∧ x + 1 ≤ ia + ib)
    (Q := fun c st' => ∃ res o i j m q, c = (some res, o, i, j, m) ∧ st' = setG st q ∧ Fin R a b res) ?step ?fin ⟨_, 0, 1, _, gallopOf st, rfl, rfl, m1, by omega, by omega, by omega⟩) ?post)
  case fin =>
    rintro c st' ⟨out, ia, ib, mg, q, rfl, rfl, m, i1, i2, i3⟩
    omega
  case post =>
    rintro c st' ⟨res, o, i, j, m, q, rfl, rfl, hF⟩
    exact wpS_pure (h res q hF)
  case step =>
    rintro x c st' _ hx ⟨out, ia, ib, mg, q, rfl, rfl, m, i1, i2, i3⟩
    try dsimp only
    refine wpS_bind (wpS_mono (wpS_forRange
      (I := fun y c st' => st' = setG st q ∧ ∃ out ia ib p r, c = (none, out, ia, ib, p, r) ∧ ML R a b out ia ib ∧ ia + 1 < a.size ∧ ib < b.size ∧ x + 1 + y ≤ ia + ib)
      (Q := fun c st' => st' = setG st q ∧ ((∃ res t, c = (some res, t) ∧ Fin R a b res) ∨ ∃ out ia ib p r, c = (none, out, ia, ib, p, r) ∧ ML R a b out ia ib ∧ ia + 1 < a.size ∧ ib < b.size ∧ x + 2 ≤ ia + ib)) ?step1 ?fin1
      ⟨rfl, out, ia, ib, 0, 0, rfl, m, i1, i2, by omega⟩) ?post1)
    case fin1 =>
      rintro c st' ⟨_, out, ia, ib, p, r, rfl, m, i1, i2, i3⟩
      omega
    case step1 =>
      rintro y c st' _ hy ⟨rfl, out, ia, ib, p, r, rfl, m, i1, i2, i3⟩
      try dsimp only
      refine wpS_bind (wpS_elem i2 ?_)
      refine wpS_bind (wpS_elem (i := ia) (by omega) ?_)
      refine wpS_bind (O.lt (st := setG st q) (hB.at i2) (hA.at (by omega)) hk ?_)
      cases e : R (g b ib) (g a ia) with
      | true =>
        try dsimp only
        rw [if_pos rfl]
        refine wpS_bind (wpS_elem i2 ?_)
        have m' := m.takeB i2 (two m (by omega) i2 e)
        try dsimp only
        by_cases d1 : ib + 1 = b.size
        · rw [if_pos (by simp [d1])]
          exact wpS_pure ⟨rfl, .inl ⟨_, _, rfl, m'.doneB d1⟩⟩
        · rw [if_neg (by simpa using d1)]
          by_cases d2 : r + 1 ≥ mg
          · rw [if_pos d2]
            exact wpS_pure ⟨rfl, .inr ⟨_, ia, ib + 1, _, _, rfl, m', i1, by omega, by omega⟩⟩
          · rw [if_neg d2]
            exact wpS_pure ⟨rfl, _, ia, ib + 1, _, _, rfl, m', i1, by omega, by omega⟩
      | false =>
        try dsimp only
        rw [if_neg Bool.false_ne_true]
        refine wpS_bind (wpS_elem (i := ia) (by omega) ?_)
        have m' := m.takeA (by omega) (one m (by omega) i2 e)
        try dsimp only
        by_cases d1 : ia + 1 + 1 = a.size
        · rw [if_pos (by simp [d1])]
          exact wpS_pure ⟨rfl, .inl ⟨_, _, rfl, m'.last O d1 hl⟩⟩
        · rw [if_neg (by simpa using d1)]
          by_cases d2 : p + 1 ≥ mg
          · rw [if_pos d2]
            exact wpS_pure ⟨rfl, .inr ⟨_, ia + 1, ib, _, _, rfl, m', by omega, i2, by omega⟩⟩
          · rw [if_neg d2]
            exact wpS_pure ⟨rfl, _, ia + 1, ib, _, _, rfl, m', by omega, i2, by omega⟩
    case post1 =>
      rintro c st' ⟨rfl, ⟨res, t, rfl, hF⟩ | ⟨out, ia, ib, p, r, rfl, m, i1, i2, i3⟩⟩
      · exact wpS_pure ⟨res, _, _, _, _, q, rfl, rfl, hF⟩
      try dsimp only
      refine wpS_bind (wpS_lift (wpAny_rule ⟨rfl, ?_⟩))
      refine wpS_bind (wpS_mono (wpS_forRange
        (I := fun y c st' => ∃ out ia ib mg p r q, c = (none, out, ia, ib, mg, p, r) ∧ st' = setG st q ∧ ML R a b out ia ib ∧ ia + 1 < a.size ∧ ib < b.size ∧ x + 2 + y ≤ ia + ib)
        (Q := fun c st' => ∃ q, st' = setG st q ∧ ((∃ res t, c = (some res, t) ∧ Fin R a b res) ∨ ∃ out ia ib mg p r, c = (none, out, ia, ib, mg, p, r) ∧ ML R a b out ia ib ∧ ia + 1 < a.size ∧ ib < b.size ∧ x + 2 ≤ ia + ib)) ?step2 ?fin2
        ⟨out, ia, ib, mg + 1, p, r, q, rfl, rfl, m, i1, i2, by omega⟩) ?post2)
      case fin2 =>
        rintro c st' ⟨out, ia, ib, mg, p, r, q, rfl, rfl, m, i1, i2, i3⟩
        omega
      case post2 =>
        rintro c st' ⟨q, rfl, ⟨res, t, rfl, hF⟩ | ⟨out, ia, ib, mg, p, r, rfl, m, i1, i2, i3⟩⟩
        · exact wpS_pure ⟨res, _, _, _, _, q, rfl, rfl, hF⟩
        · dsimp only
          refine wpS_bind (wpS_setG ?_)
          exact wpS_pure ⟨out, ia, ib, _, _, rfl, rfl, m, i1, i2, by omega⟩
      case step2 =>
        rintro y c st' _ hy ⟨out, ia, ib, mg, p, r, q, rfl, rfl, m, i1, i2, i3⟩
        try dsimp only
        have main : ∀ q : Nat, ∀ {k : Unit → StateT SortSt Sem (ForInStep (Option (Array Keyed) × Array Keyed × Nat × Nat × Nat × Nat × Nat))} {Q' : ForInStep (Option (Array Keyed) × Array Keyed × Nat × Nat × Nat × Nat × Nat) → SortSt → Prop},
            wpS M A E s (k ()) Q' (setG st q) → ∀ q', wpS M A E s ((modify fun z => setG z q) >>= k) Q' (setG st q') := fun q k Q' hq q' => wpS_bind (wpS_modify hq)
        by_cases hm : mg > 1
        all_goals
          first | rw [if_pos hm] | rw [if_neg hm]
          refine main _ ?_ _
          refine wpS_bind (wpS_elem i2 ?_)
          refine wpS_bind (wpS_gallop O (st := setG st _) (left := false) hk (hB.at i2) hA (by omega) (by omega) (by rw [show ia + (a.size - ia) = a.size by omega]; exact m.srtA O) fun n n1 n2 n3 => ?_)
          try dsimp only
          have mA : ML R a b (out ++ a.extract ia (ia + n)) (ia + n) ib := m.takeAs fun x hx y hy => by
            obtain ⟨j, j1, j2, j3, rfl⟩ := mem_cut hx
            obtain ⟨l, l1, l2, rfl⟩ := mem_drop hy
            have e := n2 (j - ia) (by omega)
            unfold bey at e
            rw [if_neg Bool.false_ne_true, show ia + (j - ia) = j by omega] at e
            have e' : R (g b ib) (g a j) = false := by simpa using e
            exact O.trans e' (m.srtB O ib l (Nat.le_refl _) l1 l2)
          have nlt : ia + n < a.size := by
            refine Nat.lt_of_not_le fun z => ?_
            have e := n2 (a.size - 1 - ia) (by omega)
            unfold bey at e
            rw [if_neg Bool.false_ne_true, show ia + (a.size - 1 - ia) = a.size - 1 by omega, hl (g b ib) (List.mem_of_getElem? (g_list i2))] at e
            cases e
          have eb : R (g b ib) (g a (ia + n)) = true := by
            have e := n3 n (Nat.le_refl _) (by omega)
            unfold bey at e
            rw [if_neg Bool.false_ne_true] at e
            simpa using e
          by_cases hn : n > 0
          all_goals
            first
              | rw [if_pos hn]
                by_cases d1 : ia + n + 1 = a.size
                · rw [if_pos (by simp [d1])]
                  exact wpS_pure ⟨_, rfl, .inl ⟨_, _, rfl, mA.last O d1 hl⟩⟩
                rw [if_neg (by simpa using d1), if_neg (by simp; omega)]
              | rw [if_neg hn]
                have n0 : n = 0 := by omega
                subst n0
                replace mA : ML R a b out ia ib := m
                rw [Nat.add_zero] at nlt eb
                have d1 : ¬ ia + 1 = a.size := by omega
            refine wpS_bind (wpS_elem i2 ?_)
            have mB := mA.takeB i2 (two mA (by omega) i2 eb)
            try dsimp only
            by_cases d2 : ib + 1 = b.size
            · rw [if_pos (by simp [d2])]
              exact wpS_pure ⟨_, rfl, .inl ⟨_, _, rfl, mB.doneB d2⟩⟩
            rw [if_neg (by simpa using d2)]
            refine wpS_bind (wpS_elem (by omega) ?_)
            refine wpS_bind (wpS_gallop O (st := setG st _) (left := true) hk (hA.at (by omega)) hB (by omega) (by omega) (by rw [show ib + 1 + (b.size - (ib + 1)) = b.size by omega]; exact mB.srtB O) fun l l1 l2 l3 => ?_)
            try dsimp only
            have mC := mB.takeBs (k := l) fun y hy x hx => by
              obtain ⟨j, j1, j2, j3, rfl⟩ := mem_cut hy
              obtain ⟨t, t1, t2, rfl⟩ := mem_drop hx
              have e := l2 (j - (ib + 1)) (by omega)
              unfold bey at e
              rw [if_pos rfl, show ib + 1 + (j - (ib + 1)) = j by omega] at e
              exact O.trans (O.le_of_lt e) (mB.srtA O _ t (Nat.le_refl _) t1 t2)
            by_cases hl0 : l > 0
            all_goals
              first
                | rw [if_pos hl0]
                  by_cases d3 : ib + 1 + l = b.size
                  · rw [if_pos (by simp [d3])]
                    exact wpS_pure ⟨_, rfl, .inl ⟨_, _, rfl, mC.doneB d3⟩⟩
                  rw [if_neg (by simpa using d3)]
                | rw [if_neg hl0]
                  have l0 : l = 0 := by omega
                  subst l0
                  have d3 : ¬ ib + 1 + 0 = b.size := by omega
                  replace mC := mB
              refine wpS_bind (wpS_elem (by omega) ?_)
              have ea := l3 _ (Nat.le_refl _) (by omega)
              unfold bey at ea
              rw [if_pos rfl] at ea
              have mD := mC.takeA (by omega) fun y hy => by
                obtain ⟨j, j1, j2, rfl⟩ := mem_drop hy
                exact O.trans ea (mC.srtB O _ j (Nat.le_refl _) j1 j2)
              try dsimp only
              split
              · rename_i d4
                exact wpS_pure ⟨_, rfl, .inl ⟨_, _, rfl, mD.last O (by simpa using d4) hl⟩⟩
              · rename_i d4
                have d5 := d4
                simp at d5
                split
                · exact wpS_pure ⟨_, rfl, .inr ⟨_, _, _, _, _, _, rfl, mD, by omega, by omega, by omega⟩⟩
                · exact wpS_pure ⟨_, _, _, _, _, _, _, rfl, rfl, mD, by omega, by omega, by omega⟩
end
end Tim

end
section
set_option autoImplicit false
set_option autoImplicit false
set_option linter.all false
namespace Tim
open PySem PyProof.Rows
section
variable {M : Model} {A : Around} {E : Value → Shared → Prop} {s : Shared} {kd : SortKind} {Ok : Keyed → Prop} {R : Keyed → Keyed → Bool}
structure MH (R : Keyed → Keyed → Bool) (a b out : Array Keyed) (na nb : Nat) : Prop where
  perm : (a.toList.take na ++ (b.toList.take nb ++ out.toList.reverse)).Perm (a.toList ++ b.toList)
  sa : (a.toList.take na ++ out.toList.reverse).Pairwise (le R)
  sb : (b.toList.take nb ++ out.toList.reverse).Pairwise (le R)
theorem MH.flip {a b out : Array Keyed} {na nb : Nat} (h : MH R a b out na nb) : MH R b a out nb na := by
  refine ⟨?_, h.sb, h.sa⟩
  rw [← List.append_assoc]
  refine (List.Perm.append_right _ List.perm_append_comm).trans ?_
  rw [List.append_assoc]
  exact h.perm.trans List.perm_append_comm
theorem MH.doneA {a b out : Array Keyed} {na nb : Nat} (h : MH R a b out na nb) (e : na = 0 ∨ nb = 0) : Fin R a b (a.extract 0 na ++ b.extract 0 nb ++ out.reverse) := by
  have e1 : (a.extract 0 na ++ b.extract 0 nb ++ out.reverse).toList = a.toList.take na ++ (b.toList.take nb ++ out.toList.reverse) := by
    rw [Array.toList_append, Array.toList_append, ext_head, ext_head, Array.toList_reverse, List.append_assoc]
  refine ⟨by rw [e1]; exact h.perm, ?_⟩
  rw [e1]
  rcases e with e | e
  · subst e; simpa using h.sb
  · subst e; simpa using h.sa
theorem MH.first {a b out : Array Keyed} {na nb : Nat} (h : MH R a b out na nb) (hle : ∀ y ∈ b.toList.take nb, ∀ x ∈ a.toList.take na, le R y x) : Fin R a b (b.extract 0 nb ++ a.extract 0 na ++ out.reverse) := by
  have e1 : (b.extract 0 nb ++ a.extract 0 na ++ out.reverse).toList = b.toList.take nb ++ (a.toList.take na ++ out.toList.reverse) := by
    rw [Array.toList_append, Array.toList_append, ext_head, ext_head, Array.toList_reverse, List.append_assoc]
  refine ⟨?_, ?_⟩
  · rw [e1]
    exact h.flip.perm.trans List.perm_append_comm
  · rw [e1, List.pairwise_append]
    have p := List.pairwise_append.mp h.sb
    refine ⟨p.1, h.sa, fun x hx y hy => ?_⟩
    rcases List.mem_append.mp hy with z | z
    · exact hle x hx y z
    · exact p.2.2 x hx y z
theorem MH.takeAs {a b out : Array Keyed} {na nb q : Nat} (h : MH R a b out na nb) (hq : q ≤ na) (hx : ∀ x ∈ (a.toList.drop q).take (na - q), ∀ y ∈ b.toList.take nb, le R y x) : MH R a b (out ++ (a.extract q na).reverse) q nb := by
  have e0 : (a.extract q na).toList = (a.toList.drop q).take (na - q) := by
    have := ext_cut a q (na - q)
    rwa [show q + (na - q) = na by omega] at this
  have e1 : (out ++ (a.extract q na).reverse).toList.reverse = (a.toList.drop q).take (na - q) ++ out.toList.reverse := by
    rw [Array.toList_append, Array.toList_reverse, List.reverse_append, List.reverse_reverse, e0]
  have e2 : a.toList.take na = a.toList.take q ++ (a.toList.drop q).take (na - q) := by
    rw [List.take_drop, show q + (na - q) = na by omega]
    have := (List.take_append_drop q (a.toList.take na)).symm
    rwa [List.take_take, show min q na = q by omega] at this
  have sa := h.sa
  have perm := h.perm
  rw [e2, List.append_assoc] at sa perm
  refine ⟨?_, ?_, ?_⟩
  · rw [e1]
    refine List.Perm.trans (List.Perm.append_left _ ?_) perm
    rw [← List.append_assoc, ← List.append_assoc]
    exact List.Perm.append_right _ List.perm_append_comm
  · rw [e1]; exact sa
  · rw [e1, List.pairwise_append]
    have p := List.pairwise_append.mp h.sb
    have p2 := (List.pairwise_append.mp sa).2.1
    refine ⟨p.1, p2, fun x hx' y hy => ?_⟩
    rcases List.mem_append.mp hy with z | z
    · exact hx y z x hx'
    · exact p.2.2 x hx' y z
theorem push_rev {a out : Array Keyed} {i : Nat} (h : i < a.size) : out.push (g a i) = out ++ (a.extract i (i + 1)).reverse := by
  rw [push_ext h]
  congr 1
  apply Array.toList_inj.mp
  rw [Array.toList_reverse, ext_cut, drop_g h]
  rfl
theorem MH.takeA {a b out : Array Keyed} {na nb : Nat} (h : MH R a b out (na + 1) nb) (hi : na < a.size) (hx : ∀ y ∈ b.toList.take nb, le R y (g a na)) : MH R a b (out.push (g a na)) na nb := by
  rw [push_rev hi]
  refine h.takeAs (by omega) fun x hx' y hy => ?_
  rw [Nat.add_sub_cancel_left, drop_g hi] at hx'
  have : x = g a na := by simpa using hx'
  subst this; exact hx y hy
theorem MH.takeB {a b out : Array Keyed} {na nb : Nat} (h : MH R a b out na (nb + 1)) (hi : nb < b.size) (hx : ∀ x ∈ a.toList.take na, le R x (g b nb)) : MH R a b (out.push (g b nb)) na nb := (h.flip.takeA hi hx).flip
theorem MH.takeBs {a b out : Array Keyed} {na nb q : Nat} (h : MH R a b out na nb) (hq : q ≤ nb) (hx : ∀ y ∈ (b.toList.drop q).take (nb - q), ∀ x ∈ a.toList.take na, le R x y) : MH R a b (out ++ (b.extract q nb).reverse) na q := (h.flip.takeAs hq hx).flip
theorem wpS_high (O : Ord M A E s kd Ok R) {st : SortSt} {a b : Array Keyed} {Q : Array Keyed → SortSt → Prop} (hk : kindOf st = kd) (hA : All Ok a) (hB : All Ok b) (ha : 0 < a.size) (hb : 0 < b.size)
    (sa : Srt R a 0 a.size) (sb : Srt R b 0 b.size) (hf : R (g b 0) (g a 0) = true) (hl : ∀ y ∈ b.toList, R y (g a (a.size - 1)) = true)
    (h : ∀ res q, Fin R a b res → Q res (setG st q)) : wpS M A E s (mergeHiX a b) Q st := by
  have pw : ∀ {x : Array Keyed}, Srt R x 0 x.size → x.toList.Pairwise (le R) := fun {x} hs => by
    rw [List.pairwise_iff_getElem]
    intro i j hi hj hij
    have q := hs i j (Nat.zero_le _) (by omega) (by simpa using hj)
    have gi := g_list (a := x) (i := i) (by simpa using hi)
    have gj := g_list (a := x) (i := j) (by simpa using hj)
    rw [List.getElem?_eq_getElem hi] at gi
    rw [List.getElem?_eq_getElem hj] at gj
    rw [Option.some.inj gi, Option.some.inj gj]
    exact q
  have two : ∀ {na nb : Nat}, na < a.size → nb < b.size → R (g b nb) (g a na) = true → ∀ y ∈ b.toList.take (nb + 1), le R y (g a na) := fun {na nb} h1 h2 e y hy => by
    obtain ⟨j, j1, j2, rfl⟩ := mem_take hy
    exact O.trans (sb j nb (Nat.zero_le _) (by omega) h2) (O.le_of_lt e)
  have one : ∀ {na nb : Nat}, na < a.size → nb < b.size → R (g b nb) (g a na) = false → ∀ x ∈ a.toList.take (na + 1), le R x (g b nb) := fun {na nb} h1 h2 e x hx => by
    obtain ⟨j, j1, j2, rfl⟩ := mem_take hx
    exact O.trans (sa j na (Nat.zero_le _) (by omega) h1) e
  have fst : ∀ {out : Array Keyed} {na nb : Nat}, MH R a b out na nb → nb = 1 → Fin R a b (b.extract 0 nb ++ a.extract 0 na ++ out.reverse) := fun {out na nb} m e => by
    refine m.first fun y hy x hx => ?_
    obtain ⟨j, j1, j2, rfl⟩ := mem_take hy
    obtain ⟨i, i1, i2, rfl⟩ := mem_take hx
    have ej : j = 0 := by omega
    subst ej
    exact O.trans (O.le_of_lt hf) (sa 0 i (Nat.le_refl _) (Nat.zero_le _) i2)
  have m0 : MH R a b #[] (a.size - 1 + 1) b.size := by
    have ea : a.toList.take (a.size - 1 + 1) = a.toList := List.take_of_length_le (by simp; omega)
    have eb : b.toList.take b.size = b.toList := List.take_of_length_le (by simp)
    exact ⟨by rw [ea, eb]; simp, by rw [ea]; simpa using pw sa, by rw [eb]; simpa using pw sb⟩
  have m1 : MH R a b #[g a (a.size - 1)] (a.size - 1) b.size := m0.takeA (by omega) fun y hy => O.le_of_lt (hl y (List.mem_of_mem_take hy))
  unfold mergeHiX
  refine wpS_bind (wpS_lift (wpAny_rule ⟨rfl, ?_⟩))
  refine wpS_bind (wpS_elem (i := a.size - 1) (by omega) ?_)
  try dsimp only
  by_cases c1 : a.size - 1 = 0
  · rw [if_pos (by simp [c1])]
    exact wpS_pure (h _ (gallopOf st) (m1.doneA (.inl c1)))
  rw [if_neg (by simpa using c1)]
  by_cases c2 : b.size = 1
  · rw [if_pos (by simp [c2])]
    exact wpS_pure (h _ (gallopOf st) (fst m1 c2))
  rw [if_neg (by simpa using c2)]
  refine wpS_bind (wpS_get ?_)
  try dsimp only
  refine wpS_bind (wpS_mono (wpS_forRange
    (I := fun x c st' => ∃ out na nb mg q, c = (none, na, nb, out, mg) ∧ st' = setG st q ∧ MH R a b out na nb ∧ 1 ≤ na ∧ na ≤ a.size ∧ 2 ≤ nb ∧ nb ≤ b.size ∧ na + nb + x + 1 ≤ a.size + b.size)
    (Q := fun c st' => ∃ res t q, c = (some res, t) ∧ st' = setG st q ∧ Fin R a b res) ?step ?fin ⟨_, a.size - 1, b.size, _, gallopOf st, rfl, rfl, m1, by omega, by omega, by omega, by omega, by omega⟩) ?post)
  case fin =>
    rintro c st' ⟨out, na, nb, mg, q, rfl, rfl, m, i1, i2, i3, i4, i5⟩
    omega
  case post =>
    rintro c st' ⟨res, t, q, rfl, rfl, hF⟩
    exact wpS_pure (h res q hF)
  case step =>
    rintro x c st' _ hx ⟨out, na, nb, mg, q, rfl, rfl, m, i1, i2, i3, i4, i5⟩
    try dsimp only
    refine wpS_bind (wpS_mono (wpS_forRange
      (I := fun y c st' => st' = setG st q ∧ ∃ out na nb p r, c = (none, na, nb, out, p, r) ∧ MH R a b out na nb ∧ 1 ≤ na ∧ na ≤ a.size ∧ 2 ≤ nb ∧ nb ≤ b.size ∧ na + nb + x + 1 + y ≤ a.size + b.size)
      (Q := fun c st' => st' = setG st q ∧ ((∃ res t, c = (some res, t) ∧ Fin R a b res) ∨ ∃ out na nb p r, c = (none, na, nb, out, p, r) ∧ MH R a b out na nb ∧ 1 ≤ na ∧ na ≤ a.size ∧ 2 ≤ nb ∧ nb ≤ b.size ∧ na + nb + x + 2 ≤ a.size + b.size)) ?step1 ?fin1
      ⟨rfl, out, na, nb, 0, 0, rfl, m, i1, i2, i3, i4, by omega⟩) ?post1)
    case fin1 =>
      rintro c st' ⟨_, out, na, nb, p, r, rfl, m, i1, i2, i3, i4, i5⟩
      omega
    case step1 =>
      rintro y c st' _ hy ⟨rfl, out, na, nb, p, r, rfl, m, i1, i2, i3, i4, i5⟩
      try dsimp only
      refine wpS_bind (wpS_elem (by omega) ?_)
      refine wpS_bind (wpS_elem (by omega) ?_)
      refine wpS_bind (O.lt (st := setG st q) (hB.at (by omega)) (hA.at (by omega)) hk ?_)
      cases e : R (g b (nb - 1)) (g a (na - 1)) with
      | true =>
        try dsimp only
        rw [if_pos rfl]
        refine wpS_bind (wpS_elem (by omega) ?_)
        have m' : MH R a b (out.push (g a (na - 1))) (na - 1) nb := MH.takeA (by rw [show na - 1 + 1 = na by omega]; exact m) (by omega) (by have := two (na := na - 1) (nb := nb - 1) (by omega) (by omega) e; rwa [show nb - 1 + 1 = nb by omega] at this)
        try dsimp only
        by_cases d1 : na - 1 = 0
        · rw [if_pos (by simp [d1])]
          exact wpS_pure ⟨rfl, .inl ⟨_, _, rfl, m'.doneA (.inl d1)⟩⟩
        · rw [if_neg (by simpa using d1)]
          by_cases d2 : p + 1 ≥ mg
          · rw [if_pos d2]
            exact wpS_pure ⟨rfl, .inr ⟨_, na - 1, nb, _, _, rfl, m', by omega, by omega, i3, i4, by omega⟩⟩
          · rw [if_neg d2]
            exact wpS_pure ⟨rfl, _, na - 1, nb, _, _, rfl, m', by omega, by omega, i3, i4, by omega⟩
      | false =>
        try dsimp only
        rw [if_neg Bool.false_ne_true]
        refine wpS_bind (wpS_elem (by omega) ?_)
        have m' : MH R a b (out.push (g b (nb - 1))) na (nb - 1) := MH.takeB (by rw [show nb - 1 + 1 = nb by omega]; exact m) (by omega) (by have := one (na := na - 1) (nb := nb - 1) (by omega) (by omega) e; rwa [show na - 1 + 1 = na by omega] at this)
        try dsimp only
        by_cases d1 : nb - 1 = 1
        · rw [if_pos (by simp [d1])]
          exact wpS_pure ⟨rfl, .inl ⟨_, _, rfl, fst m' d1⟩⟩
        · rw [if_neg (by simpa using d1)]
          by_cases d2 : r + 1 ≥ mg
          · rw [if_pos d2]
            exact wpS_pure ⟨rfl, .inr ⟨_, na, nb - 1, _, _, rfl, m', i1, i2, by omega, by omega, by omega⟩⟩
          · rw [if_neg d2]
            exact wpS_pure ⟨rfl, _, na, nb - 1, _, _, rfl, m', i1, i2, by omega, by omega, by omega⟩
    case post1 =>
      rintro c st' ⟨rfl, ⟨res, t, rfl, hF⟩ | ⟨out, na, nb, p, r, rfl, m, i1, i2, i3, i4, i5⟩⟩
      · exact wpS_pure ⟨res, _, q, rfl, rfl, hF⟩
      try dsimp only
      refine wpS_bind (wpS_lift (wpAny_rule ⟨rfl, ?_⟩))
      refine wpS_bind (wpS_mono (wpS_forRange
        (I := fun y c st' => ∃ out na nb mg p r q, c = (none, na, nb, out, mg, p, r) ∧ st' = setG st q ∧ MH R a b out na nb ∧ 1 ≤ na ∧ na ≤ a.size ∧ 2 ≤ nb ∧ nb ≤ b.size ∧ na + nb + x + 2 + y ≤ a.size + b.size)
        (Q := fun c st' => ∃ q, st' = setG st q ∧ ((∃ res t, c = (some res, t) ∧ Fin R a b res) ∨ ∃ out na nb mg p r, c = (none, na, nb, out, mg, p, r) ∧ MH R a b out na nb ∧ 1 ≤ na ∧ na ≤ a.size ∧ 2 ≤ nb ∧ nb ≤ b.size ∧ na + nb + x + 2 ≤ a.size + b.size)) ?step2 ?fin2
        ⟨out, na, nb, mg + 1, p, r, q, rfl, rfl, m, i1, i2, i3, i4, by omega⟩) ?post2)
      case fin2 =>
        rintro c st' ⟨out, na, nb, mg, p, r, q, rfl, rfl, m, i1, i2, i3, i4, i5⟩
        omega
      case post2 =>
        rintro c st' ⟨q, rfl, ⟨res, t, rfl, hF⟩ | ⟨out, na, nb, mg, p, r, rfl, m, i1, i2, i3, i4, i5⟩⟩
        · exact wpS_pure ⟨res, _, q, rfl, rfl, hF⟩
        · try dsimp only
          refine wpS_bind (wpS_setG ?_)
          exact wpS_pure ⟨out, na, nb, _, _, rfl, rfl, m, i1, i2, i3, i4, by omega⟩
      case step2 =>
        rintro y c st' _ hy ⟨out, na, nb, mg, p, r, q, rfl, rfl, m, i1, i2, i3, i4, i5⟩
        try dsimp only
        have main : ∀ q : Nat, ∀ {k : Unit → StateT SortSt Sem (ForInStep (Option (Array Keyed) × Nat × Nat × Array Keyed × Nat × Nat × Nat))} {Q' : ForInStep (Option (Array Keyed) × Nat × Nat × Array Keyed × Nat × Nat × Nat) → SortSt → Prop},
            wpS M A E s (k ()) Q' (setG st q) → ∀ q', wpS M A E s ((modify fun z => setG z q) >>= k) Q' (setG st q') := fun q k Q' hq q' => wpS_bind (wpS_modify hq)
        by_cases hm : mg > 1
        all_goals
          first | rw [if_pos hm] | rw [if_neg hm]
          refine main _ ?_ _
          refine wpS_bind (wpS_elem (by omega) ?_)
          refine wpS_bind (wpS_gallop O (st := setG st _) (left := false) hk (hB.at (by omega)) hA (by omega) (by omega) (fun i j j1 j2 j3 => sa i j (Nat.zero_le _) j2 (by omega)) fun n n1 n2 n3 => ?_)
          try dsimp only
          have mA : MH R a b (out ++ (a.extract n na).reverse) n nb := m.takeAs n1 fun x hx y hy => by
            obtain ⟨j, j1, j2, j3, rfl⟩ := mem_cut hx
            obtain ⟨l, l1, l2, rfl⟩ := mem_take hy
            have e := n3 j j1 (by omega)
            unfold bey at e
            rw [if_neg Bool.false_ne_true, Nat.zero_add] at e
            have e' : R (g b (nb - 1)) (g a j) = true := by simpa using e
            exact O.trans (sb l (nb - 1) (Nat.zero_le _) (by omega) (by omega)) (O.le_of_lt e')
          by_cases hn : na - n > 0
          all_goals
            first
              | rw [if_pos hn]
                by_cases d1 : n = 0
                · rw [if_pos (by simp [d1])]
                  exact wpS_pure ⟨_, rfl, .inl ⟨_, _, rfl, mA.doneA (.inl d1)⟩⟩
                rw [if_neg (by simpa using d1)]
              | rw [if_neg hn]
                have n0 : n = na := by omega
                subst n0
                replace mA := m
                have d1 : ¬ n = 0 := by omega
            refine wpS_bind (wpS_elem (by omega) ?_)
            have eb : R (g b (nb - 1)) (g a (n - 1)) = false := by
              have e := n2 (n - 1) (by omega)
              unfold bey at e
              rw [if_neg Bool.false_ne_true, Nat.zero_add] at e
              simpa using e
            have mB := MH.takeB (nb := nb - 1) (by rw [show nb - 1 + 1 = nb by omega]; exact mA) (by omega) (by have := one (na := n - 1) (nb := nb - 1) (by omega) (by omega) eb; rwa [show n - 1 + 1 = n by omega] at this)
            try dsimp only
            by_cases d2 : nb - 1 = 1
            · rw [if_pos (by simp [d2])]
              exact wpS_pure ⟨_, rfl, .inl ⟨_, _, rfl, fst mB d2⟩⟩
            rw [if_neg (by simpa using d2)]
            refine wpS_bind (wpS_elem (by omega) ?_)
            refine wpS_bind (wpS_gallop O (st := setG st _) (left := true) hk (hA.at (by omega)) hB (by omega) (by omega) (fun i j j1 j2 j3 => sb i j (Nat.zero_le _) j2 (by omega)) fun l l1 l2 l3 => ?_)
            try dsimp only
            have mC := mB.takeBs l1 fun y hy x hx => by
              obtain ⟨j, j1, j2, j3, rfl⟩ := mem_cut hy
              obtain ⟨t, t1, t2, rfl⟩ := mem_take hx
              have e := l3 j j1 (by omega)
              unfold bey at e
              rw [if_pos rfl, Nat.zero_add] at e
              exact O.trans (sa t (n - 1) (Nat.zero_le _) (by omega) (by omega)) e
            by_cases hl0 : nb - 1 - l > 0
            all_goals
              first
                | rw [if_pos hl0]
                  by_cases d3 : l = 1
                  · rw [if_pos (by simp [d3])]
                    exact wpS_pure ⟨_, rfl, .inl ⟨_, _, rfl, fst mC d3⟩⟩
                  rw [if_neg (by simpa using d3)]
                  by_cases d5 : l = 0
                  · rw [if_pos (by simp [d5])]
                    exact wpS_pure ⟨_, rfl, .inl ⟨_, _, rfl, mC.doneA (.inr d5)⟩⟩
                  rw [if_neg (by simpa using d5)]
                | rw [if_neg hl0]
                  have l0 : l = nb - 1 := by omega
                  subst l0
                  replace mC := mB
              refine wpS_bind (wpS_elem (by omega) ?_)
              have mD := MH.takeA (na := n - 1) (by rw [show n - 1 + 1 = n by omega]; exact mC) (by omega) fun y hy => by
                obtain ⟨j, j1, j2, rfl⟩ := mem_take hy
                have e := l2 j (by omega)
                unfold bey at e
                rw [if_pos rfl, Nat.zero_add] at e
                exact O.le_of_lt e
              try dsimp only
              by_cases d4 : n - 1 = 0
              · rw [if_pos (by simp [d4])]
                exact wpS_pure ⟨_, rfl, .inl ⟨_, _, rfl, mD.doneA (.inl d4)⟩⟩
              rw [if_neg (by simpa using d4)]
              split
              · exact wpS_pure ⟨_, rfl, .inr ⟨_, _, _, _, _, _, rfl, mD, by omega, by omega, by omega, by omega, by omega⟩⟩
              · exact wpS_pure ⟨_, _, _, _, _, _, _, rfl, rfl, mD, by omega, by omega, by omega, by omega, by omega⟩
end
end Tim

end
section
set_option autoImplicit false
set_option autoImplicit false
set_option linter.all false
namespace Tim
open PySem PyProof.Rows
noncomputable def wr (a : Array Keyed) (base : Nat) (ys : List Keyed) : Array Keyed := ys.zipIdx.foldl (fun a (p : Keyed × Nat) => a.setIfInBounds (base + p.2) p.1) a
theorem wr_gen : ∀ (ys : List Keyed) (o base : Nat) (a : Array Keyed) (k : Nat), base + o + ys.length ≤ a.size →
    ((ys.zipIdx o).foldl (fun a (p : Keyed × Nat) => a.setIfInBounds (base + p.2) p.1) a)[k]? = if base + o ≤ k ∧ k < base + o + ys.length then ys[k - (base + o)]? else a[k]?
  | [], o, base, a, k, h => by
    simp only [List.zipIdx_nil, List.foldl_nil, List.length_nil]
    rw [if_neg (by omega)]
  | y :: ys, o, base, a, k, h => by
    simp only [List.length_cons] at h ⊢
    rw [List.zipIdx_cons, List.foldl_cons]
    rw [wr_gen ys (o + 1) base _ k (by rw [Array.size_setIfInBounds]; omega)]
    dsimp only
    by_cases h1 : base + (o + 1) ≤ k ∧ k < base + (o + 1) + ys.length
    · rw [if_pos h1, if_pos (by omega), show k - (base + o) = (k - (base + (o + 1))) + 1 by omega]
      rfl
    · rw [if_neg h1]
      by_cases h2 : k = base + o
      · subst h2
        rw [if_pos (by omega), Array.getElem?_setIfInBounds_self_of_lt (by omega), Nat.sub_self]
        rfl
      · rw [if_neg (by omega), Array.getElem?_setIfInBounds_ne (by omega)]
theorem wr_get {ys : List Keyed} {base : Nat} {a : Array Keyed} (h : base + ys.length ≤ a.size) (k : Nat) : (wr a base ys)[k]? = if base ≤ k ∧ k < base + ys.length then ys[k - base]? else a[k]? := by
  have := wr_gen ys 0 base a k (by omega)
  rw [Nat.add_zero] at this
  exact this
theorem wr_list {ys : List Keyed} {base : Nat} {a : Array Keyed} (h : base + ys.length ≤ a.size) : (wr a base ys).toList = a.toList.take base ++ (ys ++ a.toList.drop (base + ys.length)) := by
  apply List.ext_getElem?
  intro k
  rw [Array.getElem?_toList, wr_get h]
  by_cases h1 : k < base
  · rw [if_neg (by omega), List.getElem?_append_left (by simp; omega), List.getElem?_take_of_lt h1, Array.getElem?_toList]
  · rw [List.getElem?_append_right (by simp; omega)]
    have e : (a.toList.take base).length = base := by simp; omega
    rw [e]
    by_cases h2 : k < base + ys.length
    · rw [if_pos ⟨by omega, h2⟩, List.getElem?_append_left (by omega)]
    · rw [if_neg (by omega), List.getElem?_append_right (by omega), List.getElem?_drop, Array.getElem?_toList]
      congr 1
      omega
noncomputable def seg (a : Array Keyed) (lo hi : Nat) : List Keyed := (a.toList.drop lo).take (hi - lo)
theorem seg_ext (a : Array Keyed) (lo hi : Nat) : (a.extract lo hi).toList = seg a lo hi := by
  unfold seg
  rw [Array.toList_extract, List.extract_eq_take_drop]
theorem seg_split {a : Array Keyed} {lo mid hi : Nat} (h1 : lo ≤ mid) (h2 : mid ≤ hi) : seg a lo mid ++ seg a mid hi = seg a lo hi := by
  unfold seg
  have e : a.toList.drop mid = (a.toList.drop lo).drop (mid - lo) := by rw [List.drop_drop]; congr 1; omega
  rw [e, show hi - lo = (mid - lo) + (hi - mid) by omega, List.take_add]
theorem seg_len {a : Array Keyed} {lo hi : Nat} (h : hi ≤ a.size) : (seg a lo hi).length = hi - lo := by
  unfold seg; simp; omega
theorem seg_mem {a : Array Keyed} {lo hi : Nat} {x : Keyed} (h : x ∈ seg a lo hi) : ∃ j, lo ≤ j ∧ j < a.size ∧ j < hi ∧ x = g a j := by
  by_cases z : lo ≤ hi
  · obtain ⟨j, a1, a2, a3, a4⟩ := mem_cut h
    exact ⟨j, a1, a2, by omega, a4⟩
  · unfold seg at h
    rw [show hi - lo = 0 by omega] at h
    simp at h
theorem g_seg {a : Array Keyed} {lo hi i : Nat} (h : lo + i < hi) (hz : hi ≤ a.size) : g (a.extract lo hi) i = g a (lo + i) := by
  apply g_congr
  rw [Array.getElem?_extract]
  rw [if_pos (by omega)]
section
variable {M : Model} {A : Around} {E : Value → Shared → Prop} {s : Shared} {kd : SortKind} {Ok : Keyed → Prop} {R : Keyed → Keyed → Bool}
noncomputable abbrev setPA (st : SortSt) (p : Array (Nat × Nat × Nat)) (a : Array Keyed) (q : Nat) : SortSt := SortSt.mk' (kindOf st) a p q (failedOf st)
theorem srt_extract {a : Array Keyed} {lo hi : Nat} (h : Srt R a lo hi) (hz : hi ≤ a.size) : Srt R (a.extract lo hi) 0 (a.extract lo hi).size := fun i j _ h2 h3 => by
  have e : (a.extract lo hi).size = hi - lo := by rw [Array.size_extract]; omega
  rw [e] at h3
  rw [g_seg (by omega) hz, g_seg (by omega) hz]
  exact h _ _ (by omega) (by omega) (by omega)
theorem wpS_set {σ : Type} {x : σ} {Q : PUnit → σ → Prop} {st : σ} (h : Q ⟨⟩ x) : wpS M A E s (set x : StateT σ Sem PUnit) Q st := by
  unfold wpS; rw [StateT.run_set]; exact wpAny_pure ⟨rfl, h⟩
theorem srt_join (O : Ord M A E s kd Ok R) {a : Array Keyed} {lo mid hi : Nat} (h1 : Srt R a lo mid) (h2 : Srt R a mid hi) (hm : lo < mid) (hh : mid < hi) (e : le R (g a (mid - 1)) (g a mid)) : Srt R a lo hi := fun i j a1 a2 a3 => by
  by_cases hj : j < mid
  · exact h1 i j a1 a2 hj
  · by_cases hi' : i < mid
    · exact O.trans (h1 i (mid - 1) a1 (by omega) (by omega)) (O.trans e (h2 mid j (Nat.le_refl _) (by omega) a3))
    · exact h2 i j (by omega) a2 a3
theorem wpS_merge (O : Ord M A E s kd Ok R) {st : SortSt} {i sa na nb pw pw2 : Nat} {Q : Bool → SortSt → Prop} (hk : kindOf st = kd) (hA : All Ok (arrOf st)) (hF : failedOf st = none)
    (p1 : (pendingOf st)[i]? = some (sa, na, pw)) (p2 : (pendingOf st)[i + 1]? = some (sa + na, nb, pw2)) (ha : 1 ≤ na) (hb : 1 ≤ nb) (hz : sa + na + nb ≤ (arrOf st).size)
    (s1 : Srt R (arrOf st) sa (sa + na)) (s2 : Srt R (arrOf st) (sa + na) (sa + na + nb))
    (h : ∀ a' q, Stir (arrOf st) a' sa (sa + na + nb) → Srt R a' sa (sa + na + nb) → Q true (setPA st (((pendingOf st).setIfInBounds i (sa, na + nb, pw)).eraseIdxIfInBounds (i + 1)) a' q)) :
    wpS M A E s (mergeAt' i) Q st := by
  unfold mergeAt'
  refine wpS_bind (wpS_get ?_)
  rw [p1, p2]
  try dsimp only
  refine wpS_bind (wpS_set ?_)
  generalize hP : ((pendingOf st).setIfInBounds i (sa, na + nb, pw)).eraseIdxIfInBounds (i + 1) = P at h ⊢
  refine wpS_bind (wpS_elem (arr := arrOf st) (by omega) ?_)
  refine wpS_bind (wpS_gallop O (st := setPA st P (arrOf st) (gallopOf st)) (left := false) (arr := arrOf st) hk (hA.at (by omega)) hA (by omega) (by omega) s1 fun k k1 k2 k3 => ?_)
  try dsimp only
  have lowP : ∀ t, sa ≤ t → t < sa + k → le R (g (arrOf st) t) (g (arrOf st) (sa + na)) := fun t t1 t2 => by
    have e := k2 (t - sa) (by omega)
    unfold bey at e
    rw [if_neg Bool.false_ne_true, show sa + (t - sa) = t by omega] at e
    simpa [le] using e
  by_cases c1 : na - k = 0
  · rw [if_pos (by simp [c1])]
    refine wpS_pure (h (arrOf st) (gallopOf st) (Stir.refl _ _ _) (srt_join O s1 s2 (by omega) (by omega) (lowP _ (by omega) (by omega))))
  rw [if_neg (by simpa using c1)]
  refine wpS_bind (wpS_elem (arr := arrOf st) (by omega) ?_)
  have eL : sa + k + (na - k) - 1 = sa + na - 1 := by omega
  rw [eL]
  refine wpS_bind (wpS_gallop O (st := setPA st P (arrOf st) (gallopOf st)) (left := true) (arr := arrOf st) hk (hA.at (by omega)) hA (by omega) (by omega) s2 fun l l1 l2 l3 => ?_)
  try dsimp only
  have highZ : ∀ t, sa + na + l ≤ t → t < sa + na + nb → le R (g (arrOf st) (sa + na - 1)) (g (arrOf st) t) := fun t t1 t2 => by
    have e := l3 (t - (sa + na)) (by omega) (by omega)
    unfold bey at e
    rw [if_pos rfl, show sa + na + (t - (sa + na)) = t by omega] at e
    exact e
  by_cases c2 : l = 0
  · rw [if_pos (by simp [c2])]
    refine wpS_pure (h (arrOf st) (gallopOf st) (Stir.refl _ _ _) (srt_join O s1 s2 (by omega) (by omega) (highZ _ (by omega) (by omega))))
  rw [if_neg (by simpa using c2)]
  have zx : ((arrOf st).extract (sa + k) (sa + na)).size = na - k := by rw [Array.size_extract]; omega
  have zy : ((arrOf st).extract (sa + na) (sa + na + l)).size = l := by rw [Array.size_extract]; omega
  have ax : All Ok ((arrOf st).extract (sa + k) (sa + na)) := fun x hx => by
    rw [seg_ext] at hx
    obtain ⟨j, _, j2, _, rfl⟩ := seg_mem hx
    exact hA.at j2
  have ay : All Ok ((arrOf st).extract (sa + na) (sa + na + l)) := fun x hx => by
    rw [seg_ext] at hx
    obtain ⟨j, _, j2, _, rfl⟩ := seg_mem hx
    exact hA.at j2
  have sx := srt_extract (lo := sa + k) (hi := sa + na) (fun i j a1 a2 a3 => s1 i j (by omega) a2 a3) (by omega)
  have sy := srt_extract (lo := sa + na) (hi := sa + na + l) (fun i j a1 a2 a3 => s2 i j (by omega) a2 (by omega)) (by omega)
  have hf : R (g ((arrOf st).extract (sa + na) (sa + na + l)) 0) (g ((arrOf st).extract (sa + k) (sa + na)) 0) = true := by
    rw [g_seg (by omega) (by omega), g_seg (by omega) (by omega), Nat.add_zero, Nat.add_zero]
    have e := k3 k (Nat.le_refl _) (by omega)
    unfold bey at e
    rw [if_neg Bool.false_ne_true] at e
    simpa using e
  have hl : ∀ y ∈ ((arrOf st).extract (sa + na) (sa + na + l)).toList, R y (g ((arrOf st).extract (sa + k) (sa + na)) (((arrOf st).extract (sa + k) (sa + na)).size - 1)) = true := fun y hy => by
    rw [seg_ext] at hy
    obtain ⟨j, j1, j2, j3, rfl⟩ := seg_mem hy
    rw [zx, g_seg (by omega) (by omega), show sa + k + (na - k - 1) = sa + na - 1 by omega]
    have e := l2 (j - (sa + na)) (by omega)
    unfold bey at e
    rw [if_pos rfl, show sa + na + (j - (sa + na)) = j by omega] at e
    exact e
  have done : ∀ res q, Fin R ((arrOf st).extract (sa + k) (sa + na)) ((arrOf st).extract (sa + na) (sa + na + l)) res → Q true (setPA st P (wr (arrOf st) (sa + k) res.toList) q) := by
    intro res q ⟨f1, f2⟩
    rw [seg_ext, seg_ext, seg_split (by omega) (by omega)] at f1
    have zr : res.toList.length = na - k + l := by rw [f1.length_eq, seg_len (by omega)]; omega
    have gw : ∀ t, g (wr (arrOf st) (sa + k) res.toList) t = if sa + k ≤ t ∧ t < sa + na + l then (res.toList[t - (sa + k)]?).getD dk else g (arrOf st) t := fun t => by
      unfold g
      rw [wr_get (by omega), zr, show sa + k + (na - k + l) = sa + na + l by omega]
      split <;> rfl
    have mid : ∀ t, sa + k ≤ t → t < sa + na + l → ∃ u, sa + k ≤ u ∧ u < sa + na + l ∧ g (wr (arrOf st) (sa + k) res.toList) t = g (arrOf st) u := fun t t1 t2 => by
      rw [gw, if_pos ⟨t1, t2⟩, List.getElem?_eq_getElem (by omega)]
      have hm : res.toList[t - (sa + k)]'(by omega) ∈ seg (arrOf st) (sa + k) (sa + na + l) := f1.mem_iff.mp (List.getElem_mem _)
      obtain ⟨u, u1, _, u3, e⟩ := seg_mem hm
      exact ⟨u, u1, u3, e⟩
    have PM : ∀ t u, sa ≤ t → t < sa + k → sa + k ≤ u → u < sa + na + nb → le R (g (arrOf st) t) (g (arrOf st) u) := fun t u t1 t2 u1 u2 => by
      by_cases z : u < sa + na
      · exact s1 t u t1 (by omega) z
      · exact O.trans (lowP t t1 t2) (s2 (sa + na) u (Nat.le_refl _) (by omega) u2)
    have MZ : ∀ t u, sa + k ≤ t → t < sa + na + l → sa + na + l ≤ u → u < sa + na + nb → le R (g (arrOf st) t) (g (arrOf st) u) := fun t u t1 t2 u1 u2 => by
      by_cases z : t < sa + na
      · exact O.trans (s1 t (sa + na - 1) (by omega) (by omega) (by omega)) (highZ u u1 u2)
      · exact s2 t u (by omega) (by omega) u2
    refine h _ q ⟨?_, fun t ht => ?_⟩ fun i j i1 i2 i3 => ?_
    · rw [Array.perm_iff_toList_perm, wr_list (by omega), zr]
      have e : (arrOf st).toList = (arrOf st).toList.take (sa + k) ++ (seg (arrOf st) (sa + k) (sa + na + l) ++ (arrOf st).toList.drop (sa + k + (na - k + l))) := by
        have e1 : (arrOf st).toList.drop (sa + k + (na - k + l)) = ((arrOf st).toList.drop (sa + k)).drop (na - k + l) := by rw [List.drop_drop]
        have e2 : seg (arrOf st) (sa + k) (sa + na + l) = ((arrOf st).toList.drop (sa + k)).take (na - k + l) := by unfold seg; congr 1; omega
        rw [e1, e2, List.take_append_drop, List.take_append_drop]
      refine List.Perm.trans ?_ (List.Perm.of_eq e.symm)
      exact List.Perm.append_left _ (List.Perm.append_right _ f1)
    · rw [wr_get (by omega), if_neg (by omega)]
    · by_cases hi : i < sa + k
      · have ei : g (wr (arrOf st) (sa + k) res.toList) i = g (arrOf st) i := by rw [gw, if_neg (by omega)]
        rw [ei]
        by_cases hj : sa + k ≤ j ∧ j < sa + na + l
        · obtain ⟨u, u1, u2, e⟩ := mid j hj.1 hj.2
          rw [e]; exact PM i u i1 hi u1 (by omega)
        · rw [gw, if_neg hj]
          by_cases z : j < sa + k
          · exact s1 i j i1 i2 (by omega)
          · exact PM i j i1 hi (by omega) i3
      · by_cases hi2 : i < sa + na + l
        · by_cases hj : j < sa + na + l
          · by_cases e : i = j
            · subst e; exact O.refl _
            · rw [gw, gw, if_pos ⟨by omega, hi2⟩, if_pos ⟨by omega, hj⟩]
              rw [List.getElem?_eq_getElem (by omega), List.getElem?_eq_getElem (by omega)]
              exact List.pairwise_iff_getElem.mp f2 _ _ _ _ (by omega)
          · obtain ⟨u, u1, u2, e⟩ := mid i (by omega) hi2
            have ej : g (wr (arrOf st) (sa + k) res.toList) j = g (arrOf st) j := by rw [gw, if_neg (by omega)]
            rw [e, ej]
            exact MZ u j u1 u2 (by omega) i3
        · rw [gw, gw, if_neg (by omega), if_neg (by omega)]
          exact s2 i j (by omega) i2 i3
  by_cases c3 : na - k ≤ l
  · rw [if_pos c3]
    refine wpS_bind (wpS_low O (st := setPA st P (arrOf st) (gallopOf st)) (a := (arrOf st).extract (sa + k) (sa + na)) (b := (arrOf st).extract (sa + na) (sa + na + l)) hk ax ay (by omega) (by omega) sx sy hf hl fun res q hR => ?_)
    refine wpS_bind (wpS_modify ?_)
    refine wpS_bind (wpS_get ?_)
    have hd := done res q hR
    show wpS M A E s (pure (failedOf st).isNone) Q _
    rw [hF]
    exact wpS_pure hd
  · rw [if_neg c3]
    refine wpS_bind (wpS_high O (st := setPA st P (arrOf st) (gallopOf st)) (a := (arrOf st).extract (sa + k) (sa + na)) (b := (arrOf st).extract (sa + na) (sa + na + l)) hk ax ay (by omega) (by omega) sx sy hf hl fun res q hR => ?_)
    refine wpS_bind (wpS_modify ?_)
    refine wpS_bind (wpS_get ?_)
    have hd := done res q hR
    show wpS M A E s (pure (failedOf st).isNone) Q _
    rw [hF]
    exact wpS_pure hd
end
end Tim

end
section
set_option autoImplicit false
set_option autoImplicit false
set_option linter.all false
namespace Tim
open PySem PyProof.Rows
section
variable {M : Model} {A : Around} {E : Value → Shared → Prop} {s : Shared} {kd : SortKind} {Ok : Keyed → Prop} {R : Keyed → Keyed → Bool}
noncomputable def Cont (R : Keyed → Keyed → Bool) (a : Array Keyed) : Nat → List (Nat × Nat × Nat) → Nat → Prop
  | st, [], lo => st = lo
  | st, (x, n, _) :: r, lo => x = st ∧ 1 ≤ n ∧ Srt R a x (x + n) ∧ Cont R a (st + n) r lo
theorem Cont.le {a : Array Keyed} : ∀ {l : List (Nat × Nat × Nat)} {st lo : Nat}, Cont R a st l lo → st + l.length ≤ lo
  | [], st, lo, h => by have h' : st = lo := h; simp; omega
  | (x, n, p) :: r, st, lo, h => by
    obtain ⟨_, h2, _, h4⟩ := h
    have := Cont.le h4
    simp only [List.length_cons]; omega
theorem Cont.stir {a b : Array Keyed} {lo' hi' : Nat} (hS : Stir a b lo' hi') : ∀ {l : List (Nat × Nat × Nat)} {st lo : Nat}, Cont R a st l lo → (lo ≤ lo' ∨ hi' ≤ st) → Cont R b st l lo
  | [], _, _, h, _ => h
  | (x, n, p) :: r, st, lo, h, hd => by
    obtain ⟨h1, h2, h3, h4⟩ := h
    have hl := Cont.le h4
    refine ⟨h1, h2, hS.srt h3 (by omega), Cont.stir hS h4 (by omega)⟩
theorem Cont.app {a : Array Keyed} : ∀ {l r : List (Nat × Nat × Nat)} {st lo : Nat}, Cont R a st (l ++ r) lo ↔ ∃ m, Cont R a st l m ∧ Cont R a m r lo
  | [], r, st, lo => ⟨fun h => ⟨st, rfl, h⟩, fun ⟨m, h1, h2⟩ => by have e : st = m := h1; subst e; exact h2⟩
  | (x, n, p) :: l, r, st, lo => by
    constructor
    · rintro ⟨h1, h2, h3, h4⟩
      obtain ⟨m, m1, m2⟩ := Cont.app.mp h4
      exact ⟨m, ⟨h1, h2, h3, m1⟩, m2⟩
    · rintro ⟨m, ⟨h1, h2, h3, m1⟩, m2⟩
      exact ⟨h1, h2, h3, Cont.app.mpr ⟨m, m1, m2⟩⟩
theorem cut2 {α : Type} {l : List α} {i : Nat} (h : i + 1 < l.length) : ∃ pre x y post, l = pre ++ x :: y :: post ∧ pre.length = i := by
  refine ⟨l.take i, l[i], l[i + 1], l.drop (i + 2), ?_, by simp; omega⟩
  rw [← List.drop_eq_getElem_cons h, ← List.drop_eq_getElem_cons (by omega)]
  exact (List.take_append_drop i l).symm
theorem set_erase (pre post : List (Nat × Nat × Nat)) (x y v : Nat × Nat × Nat) (P : Array (Nat × Nat × Nat)) (h : P.toList = pre ++ x :: y :: post) :
    ((P.setIfInBounds pre.length v).eraseIdxIfInBounds (pre.length + 1)).toList = pre ++ v :: post := by
  have e1 : (P.setIfInBounds pre.length v).toList = pre ++ v :: y :: post := by
    rw [Array.toList_setIfInBounds, h, List.set_append_right _ _ (Nat.le_refl _), Nat.sub_self]
    rfl
  have e2 : pre.length + 1 < (P.setIfInBounds pre.length v).size := by
    have := congrArg List.length e1
    simp at this ⊢
    omega
  unfold Array.eraseIdxIfInBounds
  rw [dif_pos e2, Array.toList_eraseIdx, e1, List.eraseIdx_append_of_length_le (Nat.le_succ _)]
  simp
structure SI (M : Model) (kd : SortKind) (Ok : Keyed → Prop) (R : Keyed → Keyed → Bool) (a₀ : Array Keyed) (lo : Nat) (st : SortSt) : Prop where
  perm : (arrOf st).Perm a₀
  kind : kindOf st = kd
  fl : failedOf st = none
  runs : Cont R (arrOf st) 0 (pendingOf st).toList lo
theorem SI.size {a₀ : Array Keyed} {lo : Nat} {st : SortSt} (h : SI M kd Ok R a₀ lo st) : (arrOf st).size = a₀.size := h.perm.size_eq
theorem wpS_mergeSI (O : Ord M A E s kd Ok R) {a₀ : Array Keyed} (h0 : All Ok a₀) {lo i : Nat} {st : SortSt} {Q : Bool → SortSt → Prop} (hI : SI M kd Ok R a₀ lo st) (hi : i + 1 < (pendingOf st).size) (hlo : lo ≤ a₀.size)
    (h : ∀ st', SI M kd Ok R a₀ lo st' → (pendingOf st').size + 1 = (pendingOf st).size → Stir (arrOf st) (arrOf st') 0 lo → Q true st') : wpS M A E s (mergeAt' i) Q st := by
  obtain ⟨pre, ⟨sa, na, p⟩, ⟨sb, nb, q⟩, post, e, hl⟩ := cut2 (l := (pendingOf st).toList) (i := i) (by simpa using hi)
  have hR := hI.runs
  rw [e] at hR
  obtain ⟨m, hp, e1, hn1, s1, e2, hn2, s2, hr⟩ := Cont.app.mp hR
  subst e1 e2
  have hle := Cont.le hr
  have g1 : (pendingOf st)[i]? = some (sa, na, p) := by rw [← Array.getElem?_toList, e, List.getElem?_append_right (by omega), hl, Nat.sub_self]; rfl
  have g2 : (pendingOf st)[i + 1]? = some (sa + na, nb, q) := by rw [← Array.getElem?_toList, e, List.getElem?_append_right (by omega), hl, Nat.add_sub_cancel_left]; rfl
  have hz : sa + na + nb ≤ (arrOf st).size := by rw [hI.size]; omega
  refine wpS_merge O hI.kind (h0.perm hI.perm) hI.fl g1 g2 hn1 hn2 hz s1 s2 fun a' qq hS hs => ?_
  have e3 := set_erase pre post (sa, na, p) (sa + na, nb, q) (sa, na + nb, p) (pendingOf st) e
  rw [hl] at e3
  refine h _ ⟨hS.perm.trans hI.perm, hI.kind, hI.fl, ?_⟩ ?_ (hS.mono (Nat.zero_le _) (by omega))
  · show Cont R a' 0 (((pendingOf st).setIfInBounds i (sa, na + nb, p)).eraseIdxIfInBounds (i + 1)).toList lo
    rw [e3]
    refine Cont.app.mpr ⟨sa, hp.stir hS (.inl (Nat.le_refl _)), rfl, by omega, ?_, ?_⟩
    · rw [← Nat.add_assoc]; exact hs
    · rw [← Nat.add_assoc]; exact hr.stir hS (.inr (Nat.le_refl _))
  · have l1 := congrArg List.length e3
    have l2 := congrArg List.length e
    simp only [List.length_append, List.length_cons, Array.length_toList] at l1 l2
    show (((pendingOf st).setIfInBounds i (sa, na + nb, p)).eraseIdxIfInBounds (i + 1)).size + 1 = _
    omega
theorem cont_modify {a : Array Keyed} : ∀ {l : List (Nat × Nat × Nat)} {i st lo q : Nat}, Cont R a st l lo → Cont R a st (l.modify i fun x => (x.1, x.2.1, q)) lo
  | [], i, st, lo, q, h => by cases i <;> exact h
  | (x, n, p) :: r, 0, st, lo, q, h => h
  | (x, n, p) :: r, i + 1, st, lo, q, h => ⟨h.1, h.2.1, h.2.2.1, cont_modify h.2.2.2⟩
theorem wpS_sortAll (O : Ord M A E s kd Ok R) {a₀ : Array Keyed} (h0 : All Ok a₀) {st : SortSt} {Q : Unit → SortSt → Prop} (hp : (arrOf st).Perm a₀) (hk : kindOf st = kd) (hF : failedOf st = none) (hP : pendingOf st = #[]) (h2 : 2 ≤ a₀.size)
    (h : ∀ st', (arrOf st').Perm a₀ → failedOf st' = none → Srt R (arrOf st') 0 a₀.size → Q () st') : wpS M A E s sortRuns' Q st := by
  rw [sortRuns'_eq]
  refine wpS_bind (wpS_get ?_)
  have hz : (arrOf st).size = a₀.size := hp.size_eq
  try dsimp only
  simp only [hz]
  refine wpS_bind (wpS_mono (wpS_forRange
    (I := fun x c st' => ∃ lo, c = (none, lo) ∧ min x a₀.size ≤ lo ∧ lo ≤ a₀.size ∧ SI M kd Ok R a₀ lo st')
    (Q := fun c st' => c = (none, a₀.size) ∧ SI M kd Ok R a₀ a₀.size st') ?step ?fin ⟨0, rfl, by omega, Nat.zero_le _, hp, hk, hF, by rw [hP]; rfl⟩) ?post)
  case fin =>
    rintro c st' ⟨lo, rfl, l1, l2, hI⟩
    have e : lo = a₀.size := by omega
    subst e
    exact ⟨rfl, hI⟩
  case step =>
    rintro x c st' _ hx ⟨lo, rfl, l1, l2, hI⟩
    try dsimp only
    by_cases hge : lo ≥ a₀.size
    · rw [if_pos hge]
      have e : lo = a₀.size := by omega
      subst e
      exact wpS_pure ⟨rfl, hI⟩
    rw [if_neg hge]
    have hz' := hI.size
    refine wpS_bind (wpS_run O hI.kind (h0.perm hI.perm) (by omega) (by omega) fun n a1 hS1 n1 n2 hs1 => ?_)
    try dsimp only
    have push : ∀ {z : SortSt} {n' : Nat}, 1 ≤ n' → SI M kd Ok R a₀ lo z → Srt R (arrOf z) lo (lo + n') → SI M kd Ok R a₀ (lo + n') (setPending z ((pendingOf z).push (lo, n', 0))) := fun {z n'} m1 hz hs => by
      refine ⟨hz.perm, hz.kind, hz.fl, ?_⟩
      show Cont R (arrOf z) 0 ((pendingOf z).push (lo, n', 0)).toList (lo + n')
      rw [Array.toList_push]
      exact Cont.app.mpr ⟨lo, hz.runs, rfl, m1, hs, rfl⟩
    have start : ∀ {a2 : Array Keyed}, Stir (arrOf st') a2 lo a₀.size → SI M kd Ok R a₀ lo (setArr st' a2) := fun {a2} hS2 => ⟨hS2.perm.trans hI.perm, hI.kind, hI.fl, hI.runs.stir hS2 (.inl (Nat.le_refl _))⟩
    rw [show lo + (a₀.size - lo) = a₀.size by omega] at hS1
    generalize hmr : minRun' a₀.size a₀.size 0 = mr
    by_cases hlt : n < mr
    all_goals
      first
        | rw [if_pos hlt]
          refine wpS_bind (wpS_lift (wpAny_rule ⟨rfl, ?_⟩))
          refine wpS_bind (wpS_bin O (st := setArr st' a1) hI.kind (h0.perm (hS1.perm.trans hI.perm)) (show n ≤ min (a₀.size - lo) mr by omega) (by show lo + min (a₀.size - lo) mr ≤ a1.size; rw [hS1.size]; omega) hs1 fun a2 hS2' hs2 => ?_)
          have hS2 : Stir (arrOf st') a2 lo a₀.size := hS1.trans (hS2'.mono (Nat.le_refl _) (by omega))
          simp only [Bool.not_true, Bool.false_eq_true, if_false]
          have m1 : 1 ≤ min (a₀.size - lo) mr := by omega
          have m2 : lo + min (a₀.size - lo) mr ≤ a₀.size := by omega
          generalize min (a₀.size - lo) mr = n' at hs2 m1 m2 ⊢
        | rw [if_neg hlt]
          obtain ⟨a2, hS2, n', en, hs2, m1, m2⟩ : ∃ a2, Stir (arrOf st') a2 lo a₀.size ∧ ∃ n', n' = n ∧ Srt R a1 lo (lo + n') ∧ 1 ≤ n' ∧ lo + n' ≤ a₀.size := ⟨a1, hS1, n, rfl, hs1, n1, by omega⟩
          rw [← en]
          clear hS2 a2
          have hS2 := hS1
          revert hs1 hS1 hs2 hS2
          generalize a1 = a2
          intro _ _ hs2 hS2
      have I2 := start hS2
      refine wpS_bind (wpS_get ?_)
      try dsimp only
      cases hbk : (pendingOf (setArr st' a2)).back? with
      | none =>
        try dsimp only
        exact wpS_bind (wpS_modify (wpS_pure ⟨lo + n', rfl, by omega, m2, push m1 I2 hs2⟩))
      | some t =>
        obtain ⟨b1, b2, b3⟩ := t
        try dsimp only
        refine wpS_bind (wpS_mono (wpS_forRange (I := fun _ c z => c = (none, ()) ∧ SI M kd Ok R a₀ lo z ∧ Srt R (arrOf z) lo (lo + n')) (Q := fun c z => c = (none, ()) ∧ SI M kd Ok R a₀ lo z ∧ Srt R (arrOf z) lo (lo + n')) ?_ (fun _ _ q => q) ⟨rfl, I2, hs2⟩) ?_)
        · rintro y c z _ _ ⟨rfl, hz, hs⟩
          refine wpS_bind (wpS_get ?_)
          try dsimp only
          split
          · rename_i older hold
            split
            · exact wpS_pure ⟨rfl, hz, hs⟩
            · have hp2 : (pendingOf z).size > 1 := by
                refine Nat.lt_of_not_le fun q => ?_
                rw [if_neg (by omega)] at hold
                cases hold
              refine wpS_bind (wpS_mergeSI O h0 hz (by omega) l2 fun z' hz' _ hS' => ?_)
              simp only [Bool.not_true, Bool.false_eq_true, if_false]
              exact wpS_pure ⟨rfl, hz', hS'.srt hs (.inr (Nat.le_refl _))⟩
          · exact wpS_pure ⟨rfl, hz, hs⟩
        · rintro c z ⟨rfl, hz, hs⟩
          try dsimp only
          refine wpS_bind (wpS_modify ?_)
          refine wpS_bind (wpS_modify (wpS_pure ⟨lo + n', rfl, by omega, m2, ?_⟩))
          refine push (z := setPending z ((pendingOf z).modify ((pendingOf z).size - 1) _)) m1 ⟨hz.perm, hz.kind, hz.fl, ?_⟩ hs
          show Cont R (arrOf z) 0 ((pendingOf z).modify _ _).toList lo
          rw [Array.toList_modify]
          exact cont_modify hz.runs
  case post =>
    rintro c st' ⟨rfl, hI⟩
    try dsimp only
    have hlen := Cont.le hI.runs
    refine wpS_bind (wpS_mono (wpS_forRange (I := fun x c st'' => c = (none, ()) ∧ SI M kd Ok R a₀ a₀.size st'' ∧ ((pendingOf st'').size ≤ 1 ∨ (pendingOf st'').size + x ≤ a₀.size))
      (Q := fun c st'' => c = (none, ()) ∧ SI M kd Ok R a₀ a₀.size st'' ∧ (pendingOf st'').size ≤ 1) ?_ ?_ ⟨rfl, hI, .inr (by simp at hlen ⊢; omega)⟩) ?_)
    · rintro y c z _ _ ⟨rfl, hz, hc⟩
      refine wpS_bind (wpS_get ?_)
      try dsimp only
      by_cases h1 : (pendingOf z).size ≤ 1
      · rw [if_pos h1]
        exact wpS_pure ⟨rfl, hz, h1⟩
      · rw [if_neg h1]
        split
        all_goals
          refine wpS_bind (wpS_mergeSI O h0 hz (by split <;> omega) (Nat.le_refl _) fun z' hz' hn _ => ?_)
          simp only [Bool.not_true, Bool.false_eq_true, if_false]
          exact wpS_pure ⟨rfl, hz', .inr (by omega)⟩
    · rintro c z ⟨rfl, hz, hc⟩
      exact ⟨rfl, hz, by omega⟩
    · rintro c z ⟨rfl, hz, hc⟩
      refine wpS_pure (h z hz.perm hz.fl ?_)
      have hr := hz.runs
      have hl2 : (pendingOf z).toList.length ≤ 1 := by simpa using hc
      revert hr hl2
      generalize (pendingOf z).toList = l
      intro hr hl2
      match l, hr, hl2 with
      | [], hr, _ =>
        have e : 0 = a₀.size := hr
        omega
      | [(x, n, p)], ⟨e1, _, hs, e2⟩, _ =>
        have e3 : 0 + n = a₀.size := e2
        subst e1
        rw [← e3]; exact hs
      | _ :: _ :: _, _, hl2 => simp at hl2
end
end Tim

end
namespace L2
open PySem PySem.Spec PyProof.Rows

section
variable {prog : Program} {w : World} {A : Around} {R : Result → Shared → Prop} {s : Shared}
theorem compLoop_any {elt target iter : Expr} {ifs : List Expr} {scope : Scope} {pos : Pos} {it acc : Value} {env : Env} (I : Nat → Shared → Prop)
    (turn : ∀ n s, I n s → wpAny (model prog w) A (pyNext it) (fun r s₁ => match r with
      | none => R (.ok .next) s₁
      | some v => wpAny (model prog w) A (letOwnedTupleGo target it v) (fun _ s₁' => wpAny (model prog w) A (assign target env v) (fun _ s₂ =>
          wpAny (model prog w) A (forIn ifs true fun c r => if r = true then do let ok ← isTrue c env (eval c env); pure (ForInStep.yield ok) else pure (ForInStep.yield r)) (fun ok s₃ =>
            if ok = true then wpAny (model prog w) A (eval elt env) (fun x s₄ =>
              wpAny (model prog w) A (call (.builtin "list.append") [acc, x]) (fun _ s₅ => ∃ m, m < n ∧ I m s₅) (fun _ _ => False) s₄) (fun _ _ => False) s₃
            else ∃ m, m < n ∧ I m s₃) (fun _ _ => False) s₂) (fun _ _ => False) s₁') (fun _ _ => False) s₁) (fun _ _ => False) s)
    (n : Nat) (h : I n s) : codeAny (model prog w) A (.compLoop (.ListComp elt [⟨target, iter, ifs, 0⟩] scope pos) 0 it acc env) R s := by
  refine codeAny_loop rfl I (fun n s hI => ?_) n h
  show wpAny _ A ((compTurn (.ListComp elt [⟨target, iter, ifs, 0⟩] scope pos) 0 it acc env).onRaise (fun x => do noteFrame x env; theTreesLotGoes x)) _ _ s
  refine wpAny_noted ?_
  rw [compTurn_list]
  refine wpAny_bind (wpAny_standAt (wpAny_bind (wpAny_mono (turn n s hI) (fun r s₁ h₁ => ?_) fun _ _ h' => h'.elim)))
  cases r with
  | none => exact wpAny_pure h₁
  | some v =>
    refine wpAny_bind (wpAny_mono h₁ (fun _ s₁' h₁' => ?_) fun _ _ h' => h'.elim)
    refine wpAny_bind (wpAny_mono h₁' (fun _ s₂ h₂ => wpAny_bind (wpAny_mono h₂ (fun ok s₃ h₃ => ?_) fun _ _ h' => h'.elim)) fun _ _ h' => h'.elim)
    cases ok with
    | false => exact wpAny_pure ⟨rfl, h₃⟩
    | true =>
      exact wpAny_bind (wpAny_bind (wpAny_mono h₃ (fun x s₄ h₄ => wpAny_bind (wpAny_mono h₄ (fun _ s₅ h₅ => wpAny_pure (wpAny_pure ⟨rfl, h₅⟩)) fun _ _ h' => h'.elim)) fun _ _ h' => h'.elim))
end

noncomputable def clos (cells : List (Str × Addr)) : List (Str × NameKind) → List (Str × Addr) → List (Str × Addr)
  | [], acc => acc
  | (n, k) :: r, acc => clos cells r (if (k == NameKind.free) = true then (n, (cells.lookup n).getD 0) :: acc else acc)
theorem clos_some {cells : List (Str × Addr)} {x : Str} {c : Addr} : ∀ (l : List (Str × NameKind)) (acc : List (Str × Addr)), (clos cells l acc).lookup x = some c → acc.lookup x = some c ∨ ((x, NameKind.free) ∈ l ∧ c = (cells.lookup x).getD 0)
  | [], _, h => .inl h
  | (n, k) :: r, acc, h => by
    unfold clos at h
    rcases clos_some r _ h with z | ⟨z1, z2⟩
    · by_cases e : (k == NameKind.free) = true
      · rw [if_pos e] at z
        by_cases q : x = n
        · subst q
          have z' : some ((cells.lookup x).getD 0) = some c := by simpa [List.lookup_cons] using z
          have ek : k = .free := by simpa using e
          subst ek
          exact .inr ⟨List.mem_cons_self, (Option.some.inj z').symm⟩
        · have q' : (x == n) = false := by simpa using q
          rw [List.lookup_cons, q'] at z
          exact .inl z
      · rw [if_neg e] at z
        exact .inl z
    · exact .inr ⟨List.mem_cons_of_mem _ z1, z2⟩
theorem clos_has {cells : List (Str × Addr)} {x : Str} : ∀ (l : List (Str × NameKind)) (acc : List (Str × Addr)), ((x, NameKind.free) ∈ l ∨ (acc.lookup x).isSome = true) → ((clos cells l acc).lookup x).isSome = true
  | [], _, h => by
    rcases h with h | h
    · exact absurd h (by simp)
    · exact h
  | (n, k) :: r, acc, h => by
    unfold clos
    refine clos_has r _ ?_
    rcases h with h | h
    · rcases List.mem_cons.mp h with e | h
      · cases e
        right
        simp [List.lookup_cons]
      · exact .inl h
    · right
      by_cases e : (k == NameKind.free) = true
      · rw [if_pos e, List.lookup_cons]
        cases (x == n) <;> simp [h]
      · rw [if_neg e]
        exact h
theorem closure_eq {scope : Scope} {env : Env} (h : ∀ y ∈ scope.names, y.2 = .free → ∃ c, env.cells.lookup y.1 = some c) : closureFor scope env = pure (clos env.cells scope.names []) := by
  have key : ∀ (l : List (Str × NameKind)) (acc : List (Str × Addr)), (∀ y ∈ l, y.2 = .free → ∃ c, env.cells.lookup y.1 = some c) →
      (forIn l acc fun x r => match x with
        | (name, kind) => if (kind == NameKind.free) = true then do
            let a ← cellOf env name
            pure (ForInStep.yield ((name, a) :: r)) else pure (ForInStep.yield r)) = (pure (clos env.cells l acc) : Sem _) := by
    intro l
    induction l with
    | nil => intro acc _; rfl
    | cons y r ih =>
      intro acc hy
      obtain ⟨n, k⟩ := y
      rw [List.forIn_cons]
      dsimp only
      unfold clos
      by_cases e : (k == NameKind.free) = true
      · have ek : k = .free := by simpa using e
        subst ek
        obtain ⟨c, hc⟩ := hy (n, .free) List.mem_cons_self rfl
        rw [if_pos e, if_pos e]
        have hce : cellOf env n = pure c := by unfold cellOf; rw [hc]
        rw [hce, pure_bind, pure_bind]
        dsimp only
        rw [hc]
        exact ih _ fun z hz => hy z (List.mem_cons_of_mem _ hz)
      · rw [if_neg e, if_neg e, pure_bind]
        exact ih _ fun z hz => hy z (List.mem_cons_of_mem _ hz)
  have k0 := key scope.names [] h
  unfold closureFor
  simp only [bind_pure]
  exact k0
theorem relabel_mem {env : Env} {x : Str} {k : NameKind} : ∀ (names : List (Str × NameKind)),
    (names.map fun (n, k) => if (k == NameKind.free && env.scope.kind == .function && env.kindOf n == some .cell) then (n, NameKind.cell) else (n, k)).lookup x = some k →
    ∃ k', (x, k') ∈ names ∧ (k = k' ∨ (k' = .free ∧ k = .cell))
  | [], h => by simp at h
  | (n, j) :: r, h => by
    rw [List.map_cons] at h
    dsimp only at h
    by_cases c : (j == NameKind.free && env.scope.kind == .function && env.kindOf n == some .cell) = true
    · rw [if_pos c] at h
      have ej : j = .free := by
        simp only [Bool.and_eq_true] at c
        simpa using c.1.1
      subst ej
      rw [List.lookup_cons] at h
      by_cases q : x = n
      · subst q
        have h' : some NameKind.cell = some k := by simpa using h
        exact ⟨.free, List.mem_cons_self, .inr ⟨rfl, (Option.some.inj h').symm⟩⟩
      · have q' : (x == n) = false := by simpa using q
        rw [q'] at h
        obtain ⟨k', m, e⟩ := relabel_mem r h
        exact ⟨k', List.mem_cons_of_mem _ m, e⟩
    · rw [if_neg c] at h
      rw [List.lookup_cons] at h
      by_cases q : x = n
      · subst q
        have h' : some j = some k := by simpa using h
        exact ⟨j, List.mem_cons_self, .inl (Option.some.inj h').symm⟩
      · have q' : (x == n) = false := by simpa using q
        rw [q'] at h
        obtain ⟨k', m, e⟩ := relabel_mem r h
        exact ⟨k', List.mem_cons_of_mem _ m, e⟩
theorem relabel_free {env : Env} {x : Str} : ∀ (names : List (Str × NameKind)), names.lookup x = some .free →
    (names.map fun (n, k) => if (k == NameKind.free && env.scope.kind == .function && env.kindOf n == some .cell) then (n, NameKind.cell) else (n, k)).lookup x = some .free ∨
    (names.map fun (n, k) => if (k == NameKind.free && env.scope.kind == .function && env.kindOf n == some .cell) then (n, NameKind.cell) else (n, k)).lookup x = some .cell
  | [], h => by simp at h
  | (n, j) :: r, h => by
    rw [List.map_cons]
    dsimp only
    rw [List.lookup_cons] at h
    by_cases q : x = n
    · subst q
      have h' : some j = some NameKind.free := by simpa using h
      cases h'
      by_cases c : (NameKind.free == NameKind.free && env.scope.kind == .function && env.kindOf x == some .cell) = true
      · rw [if_pos c]
        right; simp [List.lookup_cons]
      · rw [if_neg c]
        left; simp [List.lookup_cons]
    · have q' : (x == n) = false := by simpa using q
      rw [q'] at h
      have ih := relabel_free (env := env) r h
      by_cases c : (j == NameKind.free && env.scope.kind == .function && env.kindOf n == some .cell) = true
      · rw [if_pos c]
        simpa [List.lookup_cons, q'] using ih
      · rw [if_neg c]
        simpa [List.lookup_cons, q'] using ih

noncomputable def inN (X : Cx) (own : List Str) (ix : List Nat) : List Str := own ++ ix.map fun j => (X.N[j]?).getD ("" : Str)
noncomputable def inS (own : List Str) (ix : List Nat) (σ : St) : St := own.map (fun _ => none) ++ ix.map fun j => (σ[j]?).getD none
noncomputable def Cx.inner (X : Cx) (scope : Scope) (own : List Str) (ix : List Nat) (C : Addr) (s : Shared) (H : Hp) (fp : List Addr) : Cx :=
  { X with N := inN X own ix, s₀ := s, H₀ := H, env := compEnvC scope (clos X.env.cells scope.names []) C X.env, outer := X.stack, ex := fp, fn := fun _ => false, pn := [], xe := fun _ _ => False }

structure Blk (X : Cx) (scope : Scope) (own : List Str) (ix : List Nat) : Prop where
  kind : scope.kind = .function
  nocell : ∀ y ∈ scope.names, y.2 ≠ .cell
  loc : ∀ y ∈ scope.names, y.2 = .local → scope.names.lookup y.1 = some .local
  free : ∀ y ∈ scope.names, y.2 = .free → X.env.scope.names.lookup y.1 = some .cell ∨ X.env.scope.names.lookup y.1 = some .free
  ixs : ∀ j ∈ ix, ∃ x, X.N[j]? = some x ∧ scope.names.lookup x = some .free

section
variable {X : Cx} {pins : List (Addr × Obj)} {σ : St} {H : Hp} {s : Shared} {scope : Scope} {own : List Str} {ix : List Nat} {fp : List Addr}
theorem Blk.cells (B : Blk X scope own ix) (ok : X.Ok) : ∀ y ∈ scope.names, y.2 = .free → ∃ c, X.env.cells.lookup y.1 = some c := fun y hy hf =>
  ok.has y.1 (by rcases B.free y hy hf with z | z; exact .inl z; exact .inr z)
theorem Blk.cl (B : Blk X scope own ix) (ok : X.Ok) {x : Str} {c : Addr} (h : (clos X.env.cells scope.names []).lookup x = some c) : X.env.cells.lookup x = some c := by
  rcases clos_some _ _ h with z | ⟨z1, z2⟩
  · simp at z
  · obtain ⟨c', e⟩ := B.cells ok _ z1 rfl
    rw [e] at z2
    have z3 : c = c' := z2
    rw [z3]; exact e
theorem Blk.start (B : Blk X scope own ix) (I : Inv X pins σ H s) (hf : ∀ b ∈ fp, FpOk X pins H b) (hfo : ∀ b ∈ fp, ∃ o, s.heap.get? b = some o) {h1 : Heap} {tk : Nat} {C D : Addr} {m : Str → Option Value}
    (hD : D = s.heap.objs.size) (hC : C = s.heap.objs.size + 1) (keep : ∀ b o, s.heap.get? b = some o → h1.get? b = some o)
    (hl : h1.get? D = some { cls := .type "list", data := .seq ([] : List Value).toArray }) (hn : h1.Ns C m) :
    Inv (X.inner scope own ix C s H fp) [] (inS own ix σ) (upd H D (.lst [])) { s with heap := h1, toks := tk } := by
  have hDn : H D = none := I.hok.fresh (by rw [hD]; exact Nat.le_refl _)
  have hCn : H C = none := I.hok.fresh (by rw [hC]; exact Nat.le_succ _)
  have hDC : C ≠ D := by rw [hC, hD]; exact Nat.succ_ne_self _
  have lt : ∀ {b : Addr} {o : Obj}, s.heap.get? b = some o → b ≠ D ∧ b ≠ C := fun e => by
    have := Heap.lt_size e
    exact ⟨by rw [hD]; exact Nat.ne_of_lt this, by rw [hC]; exact Nat.ne_of_lt (Nat.lt_succ_of_lt this)⟩
  have cl : ∀ {x c}, (X.inner scope own ix C s H fp).env.cells.lookup x = some c → X.env.cells.lookup x = some c := fun h => B.cl I.ok h
  refine ⟨⟨I.ok.mod, B.kind, I.ok.glob, I.ok.blt, ?_, fun x y c h1 h2 => I.ok.inj x y c (cl h1) (cl h2), fun x hx => ?_, fun x c hfn => ?_, I.ok.hd, I.ok.frames, .inl rfl, fun b hb => ?_, I.bs, Nat.le_trans I.ok.bsz I.sz, fun b o e hb => ?_, fun b hb => ?_, I.stack, I.stkFree⟩,
    rfl, I.bare, ⟨fun b o e _ _ _ => keep b o e, fun b o e _ _ _ => ⟨o.slots, keep b o e⟩, fun b o e n _ => ?_, fun b o e _ => ⟨o, keep b o e⟩, fun b xs e => ?_, fun b o u e => ?_, fun b ps e => ⟨#[], ?_⟩⟩, ⟨m, hn, fun i x v h1 h2 h3 => ?_⟩, fun x c h => ?_, ?_, fun x c h => ?_, fun p hp => absurd (show p ∈ ([] : List (Addr × Obj)) from hp) (by simp), ?_, ?_⟩
  · show s.heap.objs.size ≤ C
    rw [hC]; exact Nat.le_succ _
  · have hx' : (relabel scope X.env).names.lookup x = some .cell ∨ (relabel scope X.env).names.lookup x = some .free := hx
    have hm : (x, NameKind.free) ∈ scope.names := by
      rcases hx' with z | z
      · obtain ⟨k', m1, e⟩ := relabel_mem _ z
        rcases e with e | ⟨e, _⟩
        · subst e; exact absurd rfl (B.nocell _ m1)
        · subst e; exact m1
      · obtain ⟨k', m1, e⟩ := relabel_mem _ z
        rcases e with e | ⟨_, e⟩
        · subst e; exact m1
        · cases e
    exact Option.isSome_iff_exists.mp (clos_has scope.names [] (.inl hm))
  · exact absurd (show false = true from hfn) Bool.false_ne_true
  · obtain ⟨o, ho⟩ := hfo b hb
    exact ⟨(lt ho).2, fun x c h => (hf b hb).2.2.2.2.1 x c (cl h)⟩
  · have hb' : b ∈ fp := hb
    obtain ⟨f0, f1, f2, f3, f4, f5⟩ := hf b hb'
    rcases f3 with z | z
    · exact I.ok.noex b o e z
    · have := Heap.lt_size (I.ok.bs b o e).1
      exact absurd (Nat.lt_of_lt_of_le this z) (Nat.lt_irrefl _)
  · obtain ⟨f0, f1, f2, f3, f4, f5⟩ := hf b hb
    intro z
    rcases List.mem_cons.mp (I.stkSub b z) with z | z
    · exact f1 z
    · exact f2 z
  · rw [upd_ne (lt e).1]; exact n
  · rw [upd_ne (ne_of_none e hDn)]; exact e
  · rw [upd_ne (ne_of_none e hDn)]; exact e
  · have e' : H b = some (.tbl ps) := e
    rw [upd_ne (ne_of_none e' hDn), e']; simp
  · -- the names
    have hN : (inN X own ix)[i]? = some x := h1
    unfold inN at hN
    unfold inS at h2
    by_cases hi : i < own.length
    · rw [List.getElem?_append_left (by simpa using hi), List.getElem?_map] at h2
      cases e : own[i]? with
      | none => rw [e] at h2; cases h2
      | some y => rw [e] at h2; cases h2
    · rw [List.getElem?_append_right (by simpa using hi), List.length_map, List.getElem?_map] at h2
      rw [List.getElem?_append_right (by omega), List.getElem?_map] at hN
      cases e : ix[i - own.length]? with
      | none => rw [e] at h2; cases h2
      | some j =>
        rw [e] at h2 hN
        have h2' : (σ[j]?).getD none = some v := Option.some.inj h2
        have hN' : (X.N[j]?).getD ("" : Str) = x := Option.some.inj hN
        obtain ⟨y, hy, hfr⟩ := B.ixs j (List.mem_of_getElem? e)
        rw [hy] at hN'
        have hyx : y = x := hN'
        subst hyx
        have hσ : σ[j]? = some (some v) := by
          cases q : σ[j]? with
          | none => rw [q] at h2'; cases h2'
          | some z => rw [q] at h2'; exact congrArg some h2'
        obtain ⟨mo, _, hlo⟩ := I.loc
        have hmem : (y, NameKind.free) ∈ scope.names := PySem.mem_of_lookup hfr
        have hv : Vis X.env.scope y := by
          rcases B.free _ hmem rfl with z | z
          · exact .inr (.inl z)
          · exact .inr (.inr z)
        obtain ⟨u, ru, lk⟩ := hlo j y v hy hσ hv
        refine ⟨u, ru, .inr ?_⟩
        rcases lk with ⟨hk, _⟩ | ⟨hk, c, hc, hcell⟩
        · have hk' : X.env.scope.names.lookup y = some .local := hk
          rcases B.free _ hmem rfl with z | z <;> (rw [hk'] at z; cases z)
        · refine ⟨?_, c, ?_, hcell.keeps keep⟩
          · show (relabel scope X.env).names.lookup y = some .cell ∨ (relabel scope X.env).names.lookup y = some .free
            exact (relabel_free _ hfr).symm
          · show (clos X.env.cells scope.names []).lookup y = some c
            obtain ⟨c', e'⟩ := Option.isSome_iff_exists.mp (clos_has (cells := X.env.cells) scope.names [] (.inl hmem))
            have := B.cl I.ok e'
            rw [hc] at this; cases this
            exact e'
  · obtain ⟨v, q⟩ := I.cell x c (cl h)
    exact ⟨v, q.keeps keep⟩
  · show (upd H D (.lst [])) C = none
    rw [upd_ne hDC]; exact hCn
  · obtain ⟨v, o, ho, _⟩ := I.cell x c (cl h)
    rw [upd_ne (lt ho).1]
    exact I.freeC x c (cl h)
  · refine I.hok.laid keep (by rw [hD]; exact Nat.le_refl _) ?_
    exact ⟨Nat.zero_le _, [], _, .nil, hl⟩
  · show (inS own ix σ).length = (inN X own ix).length
    simp [inS, inN]
theorem Blk.back {σ' : St} {H' : Hp} {s' : Shared} {C : Addr} {h2 : Heap} (I : Inv X pins σ H s) (hf : ∀ b ∈ fp, FpOk X pins H b) (hC : s.heap.objs.size ≤ C)
    (J : Inv (X.inner scope own ix C s H fp) [] σ' H' s') (hs : Heap.SameBut C s'.heap h2) : Inv X pins σ H' { s' with heap := h2 } := by
  have u : Un (frs X.stack) fp H H' s.heap s'.heap := J.base
  have ne : ∀ {b : Addr} {o : Obj}, s.heap.get? b = some o → b ≠ C := fun e => Nat.ne_of_lt (Nat.lt_of_lt_of_le (Heap.lt_size e) hC)
  have kp : ∀ {b : Addr} {o : Obj}, b ≠ C → s'.heap.get? b = some o → h2.get? b = some o := fun hb e => (hs.2 _ hb).trans e
  have u2 : Un (frs X.stack) fp H H' s.heap h2 := ⟨fun b o e n h1 h2 => kp (ne e) (u.keep b o e n h1 h2), fun b o e n h1 h2 => by
      obtain ⟨sl, z⟩ := u.slot b o e n h1 h2
      exact ⟨sl, kp (ne e) z⟩, u.free, fun b o e h1 => by
      obtain ⟨o', z⟩ := u.there b o e h1
      exact ⟨o', kp (ne e) z⟩, u.tups, u.frzs, u.tbls⟩
  have hCn : H' C = none := J.free
  have hok : HOk X.prog X.w H' h2 := fun b ob e => by
    refine (J.hok b ob e).stay (fun c w' hc q => (hs.2 c ?_).trans q) (fun _ q => q) fun _ _ q => q
    rintro rfl
    rcases hc with z | hc
    · rw [← z] at e; rw [hCn] at e; cases e
    · rw [hCn] at hc; cases hc
  exact I.call' (s' := { s' with heap := h2 }) J.os u2 hok J.bare fun b hb => by
    obtain ⟨f0, f1, f2, f3, f4, f5⟩ := hf b hb
    exact ⟨f3, f1, f4, f5⟩
end
end L2

namespace L2
open PySem PySem.Spec PyProof.Rows

noncomputable def PIfs (X : Cx) (ifs : List Expr) (t : TT) : Prop :=
  ∀ (pins : List (Addr × Obj)) (s : Shared) (σ : St) (H : Hp) (Q : Bool → Hp → Prop), Inv X pins σ H s → t σ H Q →
    wpAny (model X.prog X.w) X.A (forIn ifs true fun c r => if r = true then do let ok ← isTrue c X.env (eval c X.env); pure (ForInStep.yield ok) else pure (ForInStep.yield r)) (TP X pins σ Q) X.xe s
noncomputable def tYes : TT := fun _ H Q => Q true H
theorem pifs_nil {X : Cx} : PIfs X [] tYes := fun _ _ _ H _ I h => wpAny_tests_nil ⟨H, I, h⟩
noncomputable def GOwn (n : Nat) (g : TG) : Prop := ∀ x σ H Q, g x σ H Q → g x σ H fun σ2 H2 => (σ2.length = σ.length ∧ ∀ i, n ≤ i → σ2[i]? = σ[i]?) ∧ Q σ2 H2
theorem gown_name {n i : Nat} (h : i < n) : GOwn n (gName i) := fun x σ H Q q => by
  refine ⟨⟨by simp, fun j hj => ?_⟩, q⟩
  rw [List.getElem?_set_ne (by omega)]
noncomputable def Comps (own : List Str) (ix : List Nat) (g : TG) (tc : TT) (te : TE) (σ : St) (J : It) (H1 : Hp) (D : Addr) (Q : Hp → Prop) : Prop :=
  ∃ W : Nat → Nat → Hp → Prop, (∃ m, W 0 m (upd H1 D (.lst []))) ∧ ∀ i m Hi, W i m Hi →
    (J.stop i Hi ∧ Q Hi) ∨ (J.go i Hi ∧ ∀ x H', J.yld i Hi x H' → g x (inS own ix σ) H' fun σ2 H2 => tc σ2 H2 fun b H3 =>
      if b = true then te σ2 H3 fun v H4 => ∃ ys, H4 D = some (.lst ys) ∧ ys.length < sizeLine ∧ ∃ m', m' < m ∧ W (i + 1) m' (upd H4 D (.lst (ys ++ [v]))) else ∃ m', m' < m ∧ W (i + 1) m' H3)
noncomputable def tComp (own : List Str) (ix : List Nat) (wi : TI) (g : TG) (tc : TT) (te : TE) : TE := fun σ H Q => wi σ H fun J H1 => ∀ D, H1 D = none → Comps own ix g tc te σ J H1 D fun H' => Q (.ref D) H'

section
variable {X : Cx} {pins : List (Addr × Obj)} {σ : St} {H : Hp} {s : Shared} {scope : Scope} {own : List Str} {ix : List Nat} {fp : List Addr}
theorem inS_weak {σ2 : St} (hl : σ2.length = (inS own ix σ).length) (h : ∀ i, own.length ≤ i → σ2[i]? = (inS own ix σ)[i]?) : ∀ (i : Nat) v, (inS own ix σ)[i]? = some (some v) → σ2[i]? = some (some v) := fun i v e => by
  by_cases hi : i < own.length
  · unfold inS at e
    rw [List.getElem?_append_left (by simpa using hi), List.getElem?_map] at e
    cases q : own[i]? with
    | none => rw [q] at e; cases e
    | some y => rw [q] at e; cases e
  · rw [h i (by omega)]; exact e
theorem comp_block {elt tg iter : Expr} {ifs : List Expr} {pos : Pos} {J : It} {it : Addr} {tn : Nat → Heap → Prop} {g : TG} {tc : TT} {te : TE} {E : Value → Shared → Prop} {Q : Addr → Hp → Prop} {RR : Value → Addr → Result → Shared → Prop}
    (B : Blk X scope own ix) (hc : X.calm = true) (ho : GOwn own.length g)
    (hg : ∀ C s H fp, PG (X.inner scope own ix C s H fp) tg g) (hi : ∀ C s H fp, PIfs (X.inner scope own ix C s H fp) ifs tc) (he : ∀ C s H fp, PE (X.inner scope own ix C s H fp) elt te)
    (I : Inv X pins σ H s) (T : Turn X.prog X.w X.K tg J fp it tn) (t0 : tn 0 s.heap) (hf : ∀ b ∈ fp, FpOk X pins H b)
    (h : ∀ D, H D = none → Comps own ix g tc te σ J H D (Q D))
    (hRR : ∀ D C H' σ' s', Inv (X.inner scope own ix C s H fp) [] σ' H' s' → s.heap.objs.size ≤ C → Q D H' → RR (.ref D) C (.ok .next) s') :
    wpAny (model X.prog X.w) X.A (newList []) (fun acc s₃ => wpAny (model X.prog X.w) X.A (newFunctionEnv scope X.env.globals (clos X.env.cells scope.names []) [] X.env.qual none .none (some X.env)) (fun cenv s₄ =>
      codeAny (model X.prog X.w) X.A (.compStart (.ListComp elt [⟨tg, iter, ifs, 0⟩] scope pos) 0 (.ref it) acc { cenv with scope := relabel scope X.env }) (RR acc cenv.locals) s₄) E s₃) E s := by
  refine wpAny_newObj_type (wpAny_newFunctionEnv B.nocell (by intro y hy; simp at hy) (fun h₁ hns₁ hsb₁ => ?_) B.kind)
  dsimp only at hns₁ hsb₁ ⊢
  generalize hH2 : s.heap.push { cls := .type "list", dict := none, data := .seq ([] : List Value).toArray } = H2 at hns₁ hsb₁ ⊢
  have hC : H2.objs.size = s.heap.objs.size + 1 := by rw [← hH2, Heap.size_push]
  have hDC : s.heap.objs.size ≠ H2.objs.size := by rw [hC]; exact Nat.ne_of_lt (Nat.lt_succ_self _)
  have below : ∀ b, b < s.heap.objs.size → b ≠ H2.objs.size := fun b hb => by rw [hC]; exact Nat.ne_of_lt (Nat.lt_succ_of_lt hb)
  have old : ∀ b o, s.heap.get? b = some o → h₁.get? b = some o := fun b o e => hsb₁.extBut b o (below b (Heap.lt_size e)) (Heap.get?_push_of_some _ (hH2 ▸ Heap.get?_push_of_some _ e))
  have hacc : h₁.get? s.heap.objs.size = some { cls := .type "list", data := .seq ([] : List Value).toArray } := hsb₁.extBut _ _ hDC (Heap.get?_push_of_some _ (hH2 ▸ Heap.get?_push_size _ rfl))
  have hfo : ∀ b ∈ fp, ∃ o, s.heap.get? b = some o := fun b hb => by
    obtain ⟨o, e, _⟩ := T.obj _ _ t0 b hb
    exact ⟨o, e⟩
  obtain ⟨W, ⟨m0, w0⟩, turn⟩ := h s.heap.objs.size (I.hok.fresh (Nat.le_refl _))
  have I1 := B.start (fp := fp) (tk := s.toks + ([] : List (Str × Value)).length) I hf hfo rfl hC old hacc hns₁
  have t1 : tn 0 h₁ := T.keep _ _ _ t0 fun b _ o e => old b o e
  have f1 : ∀ b ∈ fp, (upd H s.heap.objs.size (.lst [])) b = none := fun b hb => by
    obtain ⟨o, e⟩ := hfo b hb
    rw [upd_ne (Nat.ne_of_lt (Heap.lt_size e))]
    exact (hf b hb).1
  have stat : ∀ {H' : Hp}, (∀ b ∈ fp, H' b = none) → ∀ b ∈ fp, FpOk (X.inner scope own ix H2.objs.size s H fp) [] H' b := fun hn b hb => by
    obtain ⟨q1, q2⟩ := I1.ok.exf b hb
    exact ⟨hn b hb, q1, I1.ok.exfs b hb, .inl hb, q2, fun p hp => absurd (show p ∈ ([] : List (Addr × Obj)) from hp) (by simp)⟩
  have loop : ∀ s₃ : Shared, s₃ = { s with heap := h₁, toks := s.toks + ([] : List (Str × Value)).length } →
      codeAny (model X.prog X.w) X.A (.compLoop (.ListComp elt [⟨tg, iter, ifs, 0⟩] scope pos) 0 (.ref it) (.ref s.heap.objs.size) (compEnvC scope (clos X.env.cells scope.names []) H2.objs.size X.env))
        (RR (.ref s.heap.objs.size) H2.objs.size) s₃ := by
    rintro s₃ rfl
    refine compLoop_any (fun n s' => ∃ i Hi, Inv (X.inner scope own ix H2.objs.size s H fp) [] (inS own ix σ) Hi s' ∧ tn i s'.heap ∧ (∀ b ∈ fp, Hi b = none) ∧ W i n Hi) ?_ m0 ⟨0, _, I1, t1, f1, w0⟩
    rintro n s3 ⟨i, H3, I3, st3, fr3, w3⟩
    rcases turn i n H3 w3 with ⟨stop, q⟩ | ⟨go, step⟩
    · refine thn (T.done (X.inner scope own ix H2.objs.size s H fp) rfl rfl rfl hc i [] s3 _ H3 _ I3 (stat fr3) st3 stop) fun r s4 ⟨hr, I4⟩ => ?_
      subst hr
      exact hRR _ _ _ _ _ I4 (by rw [hC]; exact Nat.le_succ _) q
    · refine thn (T.item (X.inner scope own ix H2.objs.size s H fp) rfl rfl rfl hc i [] s3 _ H3 _ I3 (stat fr3) st3 go) fun r s4 ⟨u, hr, h4⟩ => ?_
      subst hr
      refine thn h4 fun _ s5 ⟨x, H5, I5, r5, y5, st5, fr5⟩ => ?_
      have I5' := I5.pinned (stat fr5) (T.obj _ _ st5)
      refine thn (hg _ _ _ _ _ s5 _ H5 x u _ I5' r5 (ho _ _ _ _ (step x H5 y5))) fun _ s6 ⟨σ6, H6, I6, ⟨l6, o6⟩, q6⟩ => ?_
      refine thn (hi _ _ _ _ _ s6 σ6 H6 _ I6 q6) fun b s7 ⟨H7, I7, q7⟩ => ?_
      have again : ∀ {H' : Hp} {s' : Shared}, Inv (X.inner scope own ix H2.objs.size s H fp) ([] ++ pinsAt fp s5.heap) σ6 H' s' → (∃ m', m' < n ∧ W (i + 1) m' H') →
          ∃ m, m < n ∧ ∃ i Hi, Inv (X.inner scope own ix H2.objs.size s H fp) [] (inS own ix σ) Hi s' ∧ tn i s'.heap ∧ (∀ b ∈ fp, Hi b = none) ∧ W i m Hi := fun {H' s'} J w => by
        obtain ⟨m', hm, w⟩ := w
        refine ⟨m', hm, i + 1, H', J.unpinned.weak l6.symm (inS_weak l6 o6), T.keep _ _ _ st5 fun b hb o e => (J.pin (b, o) (List.mem_append_right _ (List.mem_append_right _ (mem_pinsAt hb e)))).1, fun b hb => ?_, w⟩
        obtain ⟨o, e, d⟩ := T.obj _ _ st5 b hb
        exact (J.pin (b, o) (List.mem_append_right _ (List.mem_append_right _ (mem_pinsAt hb e)))).2.1
      cases b with
      | false =>
        rw [if_neg Bool.false_ne_true] at q7
        rw [if_neg Bool.false_ne_true]
        exact again I7 q7
      | true =>
        rw [if_pos rfl] at q7
        rw [if_pos rfl]
        refine thn (he _ _ _ _ _ s7 σ6 H7 _ I7 q7) fun v s8 ⟨y, H8, I8, r8, ys, e8, z8, w8⟩ => ?_
        refine thn (mt_append (X := X.inner scope own ix H2.objs.size s H fp) _ s8 σ6 H8 (.ref s.heap.objs.size) [y] (.ref s.heap.objs.size) [v] (fun _ H' => ∃ m', m' < n ∧ W (i + 1) m' H') I8 rfl (.cons r8 .nil) ⟨_, ys, y, rfl, rfl, e8, z8, w8⟩) fun _ s9 ⟨_, H9, I9, _, w9⟩ => ?_
        exact again I9 w9
  exact codeAny_compStart_list (loop _ rfl) (T.self _ 0 _ _ _ t1 (loop _ rfl))
theorem pe_comp {elt tg iter : Expr} {ifs : List Expr} {pos : Pos} {wi : TI} {g : TG} {tc : TT} {te : TE} (own : List Str) (ix : List Nat) (B : Blk X scope own ix) (hc : X.calm = true) (ho : GOwn own.length g) (hw : PI X tg iter wi)
    (hg : ∀ C s H fp, PG (X.inner scope own ix C s H fp) tg g) (hi : ∀ C s H fp, PIfs (X.inner scope own ix C s H fp) ifs tc) (he : ∀ C s H fp, PE (X.inner scope own ix C s H fp) elt te)
    (hs : ∀ x, foldedSetIterable iter X.env x = pure x := by intro _; rfl) : PE X (.ListComp elt [⟨tg, iter, ifs, 0⟩] scope pos) (tComp own ix wi g tc te) := by
  intro pins s σ H Q I h
  rw [eval_ListComp]
  refine wpAny_comprehension_free (use := none) rfl hs (closure_eq (B.cells I.ok)) B.kind B.loc (thn (hw pins s σ H _ I h) fun v s1 h1 => thn h1 fun itv s2 h2 => ?_)
  obtain ⟨it, fp, tn, J, H2, e, I2, T, st2, f2, R⟩ := h2
  subst e
  refine comp_block B hc ho hg hi he I2 T st2 f2 R fun D C H' σ' s' J' hC q => ?_
  obtain ⟨m, hn, _⟩ := J'.loc
  exact ⟨m, hn, fun h' hs' => ⟨.ref D, H', Blk.back I2 f2 hC J' hs', rfl, q⟩⟩
theorem ps_comp {elt tg iter : Expr} {ifs : List Expr} {pos spos py : Pos} {wi : TI} {g : TG} {tc : TT} {te : TE} {i : Nat} {y : Str} (own : List Str) (ix : List Nat) (B : Blk X scope own ix) (hc : X.calm = true) (ho : GOwn own.length g) (hN : X.N.Nodup) (hy : X.N[i]? = some y) (hx : X.env.scope.names.lookup y = some .local)
    (hsw : swapsWith (.ListComp elt [⟨tg, iter, ifs, 0⟩] scope pos) (some (.Name y py)) spos.line X.env = pure true) (hw : PI X tg iter wi)
    (hg : ∀ C s H fp, PG (X.inner scope own ix C s H fp) tg g) (hi : ∀ C s H fp, PIfs (X.inner scope own ix C s H fp) ifs tc) (he : ∀ C s H fp, PE (X.inner scope own ix C s H fp) elt te)
    (hs : ∀ x, foldedSetIterable iter X.env x = pure x := by intro _; rfl) : PS X (.Assign [.Name y py] (.ListComp elt [⟨tg, iter, ifs, 0⟩] scope pos) spos) (tAsg (tComp own ix wi g tc te) (gName i)) := by
  intro pins s σ H D I h
  rw [exec_Assign_Name_used _ _ _ _ hsw]
  refine wpAny_bind (wpAny_standAt (wpAny_bind ?_))
  show wpAny _ X.A (do let _ ← comprehension (.ListComp elt [⟨tg, iter, ifs, 0⟩] scope pos) scope X.env _ (newList []) false (eval iter X.env) (some (assign (.Name y py) X.env))) _ _ s
  refine wpAny_bind (wpAny_mono (wpAny_comprehension_free (use := some (assign (.Name y py) X.env)) (Q := fun _ s' => SP X pins D .next s') rfl hs (closure_eq (B.cells I.ok)) B.kind B.loc
    (thn (hw pins s σ H _ I h) fun v s1 h1 => thn h1 fun itv s2 h2 => ?_)) (fun _ s' hq => wpAny_pure (wpAny_pure hq)) fun _ _ e => e)
  obtain ⟨it, fp, tn, J, H2, e, I2, T, st2, f2, R⟩ := h2
  subst e
  refine comp_block B hc ho hg hi he I2 T st2 f2 R fun D' C H' σ' s' J' hC q => ?_
  show wpAny _ X.A (assign (.Name y py) X.env (.ref D')) _ _ _
  obtain ⟨m, hn, _⟩ := J'.loc
  have I3 : Inv X pins σ H' s' := by
    have := Blk.back I2 f2 hC J' (Heap.SameBut.refl C s'.heap)
    exact this
  obtain ⟨oC, es, ep, eC, dC, rC⟩ := hn
  have hCl : C ≠ X.env.locals := Nat.ne_of_gt (Nat.lt_of_lt_of_le I2.lt hC)
  have I4 : Inv X (pins ++ [(C, oC)]) σ H' s' := I3.pins_of fun p hp => by
    rcases List.mem_append.mp hp with z | z
    · exact I3.pin p (List.mem_append_right _ z)
    · have z' : p = (C, oC) := by simpa using z
      subst z'
      exact ⟨eC, J'.free, hCl, I2.nofs hC, fun v z => by
        have z' : oC.data = .cell v := z
        rw [dC] at z'; cases z'⟩
  refine wpAny_assign_Name (store_ok (v := .ref D') I4 hN hy (.inl hx) rfl (fun s3 I5 => ?_) (.inr hx))
  have pC := I5.pin (C, oC) (List.mem_append_right _ (List.mem_append_right _ (by simp)))
  refine ⟨m, ⟨oC, es, ep, pC.1, dC, rC⟩, fun h' hs' => ⟨_, H', ?_, q⟩⟩
  have I6 : Inv X pins (σ.set i (some (.ref D'))) H' s3 := I5.pins_of fun p hp => I5.pin p (List.mem_append_right _ (List.mem_append_left _ hp))
  refine Inv.turned (t' := s3.toks) I6 (fun b o hb e => (hs'.2 b hb).trans e) J'.free hCl (.inr (Nat.le_trans I2.sz hC)) (fun x c hx' z => ?_) fun p hp z => ?_
  · obtain ⟨v, o, ho', _⟩ := I2.cell x c hx'
    have := Heap.lt_size ho'
    rw [z] at this
    exact absurd (Nat.lt_of_lt_of_le this hC) (Nat.lt_irrefl _)
  · have := Heap.lt_size (I2.pin p hp).1
    rw [z] at this
    exact absurd (Nat.lt_of_lt_of_le this hC) (Nat.lt_irrefl _)
end
end L2

namespace L2
open PySem PySem.Spec PyProof.Rows

noncomputable def Cal (P : Program) (w : World) (K : PySem.W.Frag) (mg : Str → Option Value) (base : Heap) (x : Str) (k : Nat) (sp : Sp) : Prop :=
  ∃ f fd ps, mg x = some (.ref f) ∧ FnOk P w K mg base CX0 k f fd ps sp ∧ PySem.W.keepIn K (.ref f) = true ∧ Binds K fd ps []
section
variable {X : Cx} {k : Nat} {x : Str} {sp : Sp} {p pos : Pos} {e : Expr} {es : List Expr} {t : TA}
theorem pe_cal (c : Cal X.prog X.w X.K X.mg X.base x k sp) (hr : Room k X.A) (hg : Gl X x) (ha : PA X (e :: es) t) (hdb : (x == ("__debug__" : Str)) = false := by decide)
    (he : starEach (e :: es) X.env = (false, eval e X.env) :: starEach es X.env := by rfl) (hpl : (backTo pos (starEach es X.env)).any (·.1) = false := by rfl) : PE X (.Call (.Name x p) (e :: es) [] pos) (tCall sp [] E0 t) := by
  obtain ⟨f, fd, ps, hm, F, hk, hb⟩ := c
  exact pe_call F hr hg hm hk hb .nil pass0 ha hdb he hpl
theorem Cal.imp {P : Program} {w : World} {K : PySem.W.Frag} {mg : Str → Option Value} {base : Heap} {sp' : Sp} (c : Cal P w K mg base x k sp) (h : ∀ vs H Q E, sp' vs H Q E → sp vs H Q E) : Cal P w K mg base x k sp' :=
  let ⟨f, fd, ps, hm, F, hk, hb⟩ := c
  ⟨f, fd, ps, hm, F.imp h, hk, hb⟩
theorem pe_globI {i : Int} (hg : Gl X x) (hm : ∃ t, X.mg x = some (.int i t)) (hd : (x == ("__debug__" : Str)) = false := by decide) : PE X (.Name x pos) (tC (.int i)) := by
  obtain ⟨t, hm⟩ := hm
  exact pe_glob hg hm ⟨t, rfl⟩ hd
end

section
variable {X : Cx} {tg : Expr}
end
end L2

namespace L2
open PySem PySem.Spec PyProof.Rows

theorem b_isinstance : bootBuiltins "isinstance" = some (.builtin "isinstance") := by decide +kernel
theorem b_str : bootBuiltins "str" = some (.type "str") := by decide +kernel
theorem b_list : bootBuiltins "list" = some (.type "list") := by decide +kernel
theorem b_tuple : bootBuiltins "tuple" = some (.type "tuple") := by decide +kernel
theorem b_ValueError : bootBuiltins "ValueError" = some (.type "ValueError") := by decide +kernel
theorem b_min : bootBuiltins "min" = some (.builtin "min") := by decide +kernel
theorem b_sorted : bootBuiltins "sorted" = some (.builtin "sorted") := by decide +kernel
section
variable {X : Cx} {e : Expr} {te : TE} {p p2 pos : Pos} {c : Str} {T : String}
end
example (K : PySem.W.Frag) : PySem.W.kitOne K (.type "int") (.type "int") = some true := rfl
example (K : PySem.W.Frag) : PySem.W.kitOne K (.type "int") (.type "bool") = some false := by rfl
example (K : PySem.W.Frag) : PySem.W.kitOne K (.type "tuple") (.type "tuple") = some true := rfl

inductive Dt where
  | i (n : Int) | b (x : Bool) | s (x : Str) | t (xs : List Dt) | l (xs : List Dt)
mutual
noncomputable def deq : Dt → Dt → Bool
  | .i a, .i c => a == c
  | .b a, .b c => a == c
  | .s a, .s c => a == c
  | .t xs, .t ys => deqs xs ys
  | .l xs, .l ys => deqs xs ys
  | _, _ => false
noncomputable def deqs : List Dt → List Dt → Bool
  | [], [] => true
  | x :: xs, y :: ys => deq x y && deqs xs ys
  | _, _ => false
end
mutual
noncomputable def like : Dt → Dt → Prop
  | .i _, .i _ => True
  | .b _, .b _ => True
  | .s _, .s _ => True
  | .t xs, .t ys => likes xs ys
  | .l xs, .l ys => likes xs ys
  | _, _ => False
noncomputable def likes : List Dt → List Dt → Prop
  | x :: xs, y :: ys => like x y ∧ likes xs ys
  | _, _ => True
end
mutual
noncomputable def dep : Dt → Nat
  | .t xs => deps xs + 1
  | .l xs => deps xs + 1
  | _ => 0
noncomputable def deps : List Dt → Nat
  | [] => 0
  | x :: xs => max (dep x) (deps xs)
end
mutual
noncomputable def AtD (K : PySem.W.Frag) (H : Hp) : V → Dt → Prop
  | v, .i n => v = .int n
  | v, .b x => v = .bl x
  | v, .s x => v = .str x
  | v, .t xs => ∃ a vs, v = .ref a ∧ SqT K H a vs ∧ AtDs K H vs xs
  | v, .l xs => ∃ a vs, v = .ref a ∧ SqL K H a vs ∧ AtDs K H vs xs
noncomputable def AtDs (K : PySem.W.Frag) (H : Hp) : List V → List Dt → Prop
  | [], [] => True
  | v :: vs, x :: xs => AtD K H v x ∧ AtDs K H vs xs
  | _, _ => False
end
theorem AtDs.len {K : PySem.W.Frag} {H : Hp} : ∀ {vs : List V} {xs : List Dt}, AtDs K H vs xs → vs.length = xs.length
  | [], [], _ => rfl
  | _ :: _, _ :: _, h => by simp only [List.length_cons]; rw [AtDs.len h.2]
  | [], _ :: _, h => h.elim
  | _ :: _, [], h => h.elim
theorem AtDs.at {K : PySem.W.Frag} {H : Hp} : ∀ {vs : List V} {xs : List Dt} {i : Nat} {v : V}, AtDs K H vs xs → vs[i]? = some v → ∃ x, xs[i]? = some x ∧ AtD K H v x
  | [], [], _, _, _, e => by simp at e
  | v :: vs, x :: xs, 0, _, h, e => by simp at e; subst e; exact ⟨x, rfl, h.1⟩
  | v :: vs, x :: xs, i + 1, w, h, e => by
    obtain ⟨y, e1, e2⟩ := AtDs.at (i := i) h.2 (by simpa using e)
    exact ⟨y, by simpa using e1, e2⟩
  | [], _ :: _, _, _, h, _ => h.elim
  | _ :: _, [], _, _, h, _ => h.elim
theorem likes.at : ∀ {xs ys : List Dt} {i : Nat} {x y : Dt}, likes xs ys → xs[i]? = some x → ys[i]? = some y → like x y
  | x :: xs, y :: ys, 0, _, _, h, e1, e2 => by simp at e1 e2; subst e1 e2; exact h.1
  | x :: xs, y :: ys, i + 1, _, _, h, e1, e2 => likes.at (i := i) h.2 (by simpa using e1) (by simpa using e2)
  | [], _, _, _, _, _, e1, _ => by simp at e1
  | _ :: _, [], _, _, _, _, _, e2 => by simp at e2
theorem deps_le {xs : List Dt} {i : Nat} {x : Dt} : xs[i]? = some x → dep x ≤ deps xs := by
  induction xs generalizing i with
  | nil => intro e; simp at e
  | cons y ys ih =>
    intro e
    cases i with
    | zero => simp at e; subst e; exact Nat.le_max_left _ _
    | succ i => exact Nat.le_trans (ih (i := i) (by simpa using e)) (Nat.le_max_right _ _)
theorem deqs_iff : ∀ {xs ys : List Dt}, xs.length = ys.length → (deqs xs ys = true ↔ ∀ (i : Nat) (x y : Dt), xs[i]? = some x → ys[i]? = some y → deq x y = true)
  | [], [], _ => ⟨fun _ i x y e _ => by simp at e, fun _ => rfl⟩
  | x :: xs, y :: ys, h => by
    have h' : xs.length = ys.length := by simpa using h
    unfold deqs
    rw [Bool.and_eq_true, deqs_iff h']
    constructor
    · rintro ⟨h1, h2⟩ i u v e1 e2
      cases i with
      | zero => simp at e1 e2; subst e1 e2; exact h1
      | succ i => exact h2 i u v (by simpa using e1) (by simpa using e2)
    · intro q
      exact ⟨q 0 x y rfl rfl, fun i u v e1 e2 => q (i + 1) u v (by simpa using e1) (by simpa using e2)⟩
  | [], _ :: _, h => by simp at h
  | _ :: _, [], h => by simp at h
theorem deqs_len : ∀ {xs ys : List Dt}, ¬ xs.length = ys.length → deqs xs ys = false
  | [], [], h => absurd rfl h
  | x :: xs, y :: ys, h => by
    unfold deqs
    rw [deqs_len (xs := xs) (ys := ys) (by simpa using h), Bool.and_false]
  | [], _ :: _, _ => rfl
  | _ :: _, [], _ => rfl

section
variable {X : Cx} {pins : List (Addr × Obj)} {σ : St} {H : Hp} {s : Shared}
theorem AtD.uniq (I : Inv X pins σ H s) : ∀ (n : Nat) {x : V} {d e : Dt}, dep d ≤ n → AtD X.K H x d → AtD X.K H x e → like d e → deq d e = true := by
  intro n
  induction n with
  | zero =>
    intro x d e hn h1 h2 hl
    cases d with
    | i a =>
      cases e with
      | i c => rw [show x = _ from h1] at h2; injection h2 with h3; subst h3; simp [deq]
      | _ => exact hl.elim
    | b a =>
      cases e with
      | b c => rw [show x = _ from h1] at h2; injection h2 with h3; subst h3; simp [deq]
      | _ => exact hl.elim
    | s a =>
      cases e with
      | s c => rw [show x = _ from h1] at h2; injection h2 with h3; subst h3; simp [deq]
      | _ => exact hl.elim
    | t xs => unfold dep at hn; omega
    | l xs => unfold dep at hn; omega
  | succ n ih =>
    intro x d e hn h1 h2 hl
    have row : ∀ {vs : List V} {xs ys : List Dt}, deps xs ≤ n → AtDs X.K H vs xs → AtDs X.K H vs ys → likes xs ys → deqs xs ys = true := fun {vs xs ys} hd a1 a2 hl => by
      rw [deqs_iff (a1.len.symm.trans a2.len)]
      intro i x y e1 e2
      have hi : i < vs.length := by rw [a1.len]; exact (List.getElem?_eq_some_iff.mp e1).1
      obtain ⟨x1, f1, g1⟩ := a1.at (List.getElem?_eq_getElem hi)
      obtain ⟨y1, f2, g2⟩ := a2.at (List.getElem?_eq_getElem hi)
      rw [e1] at f1; rw [e2] at f2; cases f1; cases f2
      exact ih (Nat.le_trans (deps_le e1) hd) g1 g2 (hl.at e1 e2)
    cases d with
    | i a =>
      cases e with
      | i c => rw [show x = _ from h1] at h2; injection h2 with h3; subst h3; simp [deq]
      | _ => exact hl.elim
    | b a =>
      cases e with
      | b c => rw [show x = _ from h1] at h2; injection h2 with h3; subst h3; simp [deq]
      | _ => exact hl.elim
    | s a =>
      cases e with
      | s c => rw [show x = _ from h1] at h2; injection h2 with h3; subst h3; simp [deq]
      | _ => exact hl.elim
    | t xs =>
      cases e with
      | t ys =>
        obtain ⟨a, vs, rfl, q1, a1⟩ := h1
        obtain ⟨b, ws, e2, q2, a2⟩ := h2
        cases e2
        rw [I.tuple_inj q2 q1] at a2
        unfold dep at hn
        exact row (by omega) a1 a2 hl
      | _ => exact hl.elim
    | l xs =>
      cases e with
      | l ys =>
        obtain ⟨a, vs, rfl, q1, a1⟩ := h1
        obtain ⟨b, ws, e2, q2, a2⟩ := h2
        cases e2
        rw [I.list_inj q2 q1] at a2
        unfold dep at hn
        exact row (by omega) a1 a2 hl
      | _ => exact hl.elim
theorem all_range {n : Nat} {e : Nat → Bool} : (List.range n).all e = true ↔ ∀ i, i < n → e i = true := by
  simp [List.all_eq_true]
noncomputable def eAt (xs ys : List Dt) (i : Nat) : Bool := match xs[i]?, ys[i]? with
  | some x, some y => deq x y
  | _, _ => true
theorem eAt_all {xs ys : List Dt} (h : xs.length = ys.length) : (List.range xs.length).all (eAt xs ys) = deqs xs ys := by
  rw [Bool.eq_iff_iff, all_range, deqs_iff h]
  constructor
  · intro q i x y e1 e2
    have := q i (List.getElem?_eq_some_iff.mp e1).1
    unfold eAt at this
    rw [e1, e2] at this
    exact this
  · intro q i hi
    unfold eAt
    rw [List.getElem?_eq_getElem hi, List.getElem?_eq_getElem (show i < ys.length by omega)]
    exact q i _ _ (List.getElem?_eq_getElem hi) (List.getElem?_eq_getElem (by omega))
theorem AtD.eq (I : Inv X pins σ H s) : ∀ (n : Nat) {A : Around} {x y : V} {u v : Value} {d e : Dt}, dep d ≤ n → A.units + n < cLine → RelV x u → RelV y v → AtD X.K H x d → AtD X.K H y e → like d e → SeqAt.EqAt A s u v (deq d e) := by
  have flat : ∀ {A : Around} {x y : V} {u v : Value} {d e : Dt}, dep d = 0 → RelV x u → RelV y v → AtD X.K H x d → AtD X.K H y e → like d e → SeqAt.EqAt A s u v (deq d e) := by
    intro A x y u v d e h0 rx ry h1 h2 hl
    cases d with
    | i a =>
      cases e with
      | i c =>
        cases (show x = _ from h1)
        cases (show y = _ from h2)
        obtain ⟨t, rfl⟩ := rx
        obtain ⟨t', rfl⟩ := ry
        exact SeqAt.EqAt.int_int a t c t'
      | _ => exact hl.elim
    | b a =>
      cases e with
      | b c =>
        cases (show x = _ from h1)
        cases (show y = _ from h2)
        cases rx
        cases ry
        exact SeqAt.EqAt.bool_bool a c
      | _ => exact hl.elim
    | s a =>
      cases e with
      | s c =>
        cases (show x = _ from h1)
        cases (show y = _ from h2)
        obtain ⟨t, rfl⟩ := rx
        obtain ⟨t', rfl⟩ := ry
        exact SeqAt.EqAt.str_str a t c t'
      | _ => exact hl.elim
    | t xs => unfold dep at h0; omega
    | l xs => unfold dep at h0; omega
  intro n
  induction n with
  | zero => intro A x y u v d e hn _ rx ry h1 h2 hl; exact flat (by omega) rx ry h1 h2 hl
  | succ n ih =>
    intro A x y u v d e hn hu rx ry h1 h2 hl
    have item : ∀ {vs ws : List V} {us zs : List Value} {xs ys : List Dt}, deps xs ≤ n → Vals vs us → Vals ws zs → AtDs X.K H vs xs → AtDs X.K H ws ys → likes xs ys →
        ∀ j (j1 : j < us.toArray.size) (j2 : j < zs.toArray.size), SeqAt.EqAt A.in1 s us.toArray[j] zs.toArray[j] (eAt xs ys j) := by
      intro vs ws us zs xs ys hd r1 r2 a1 a2 hl j j1 j2
      have k1 : j < vs.length := by rw [r1.length]; simpa using j1
      have k2 : j < ws.length := by rw [r2.length]; simpa using j2
      obtain ⟨u1, e1, q1⟩ := r1.get (List.getElem?_eq_getElem k1)
      obtain ⟨z1, e2, q2⟩ := r2.get (List.getElem?_eq_getElem k2)
      obtain ⟨x1, f1, g1⟩ := a1.at (List.getElem?_eq_getElem k1)
      obtain ⟨y1, f2, g2⟩ := a2.at (List.getElem?_eq_getElem k2)
      have m1 : us.toArray[j] = u1 := by
        have : us[j]? = some us.toArray[j] := by simp
        rw [e1] at this; exact (Option.some.inj this).symm
      have m2 : zs.toArray[j] = z1 := by
        have : zs[j]? = some zs.toArray[j] := by simp
        rw [e2] at this; exact (Option.some.inj this).symm
      rw [m1, m2]
      unfold eAt
      rw [f1, f2]
      exact ih (A := A.in1) (Nat.le_trans (deps_le f1) hd) (by show A.units + 1 + n < cLine; omega) q1 q2 g1 g2 (hl.at f1 f2)
    cases d with
    | t xs =>
      cases e with
      | t ys =>
        have hu' : A.units < cLine := by omega
        unfold dep at hn
        have h1' := h1
        have h2' := h2
        obtain ⟨a, vs, rfl, q1, a1⟩ := h1
        obtain ⟨b, ws, rfl, q2, a2⟩ := h2
        cases rx
        cases ry
        by_cases hab : a = b
        · subst hab
          have := AtD.uniq I (n + 1) (d := .t xs) (by unfold dep; omega) h1' h2' hl
          rw [this]
          exact SeqAt.EqAt.same _
        · obtain ⟨us, r1, t1, _⟩ := I.tuple q1
          obtain ⟨zs, r2, t2, _⟩ := I.tuple q2
          have lx : us.length = xs.length := r1.length.symm.trans a1.len
          have ly : zs.length = ys.length := r2.length.symm.trans a2.len
          have key := SeqAt.EqAt.of_refs hab (SeqAt.RcAt.tuples (e := eAt xs ys) t1 t2 hu' (item (by omega) r1 r2 a1 a2 hl))
          have e : ((List.range (min us.toArray.size zs.toArray.size)).all (eAt xs ys) && us.toArray.size == zs.toArray.size) = deqs xs ys := by
            rw [List.size_toArray, List.size_toArray, lx, ly]
            by_cases hlen : xs.length = ys.length
            · rw [← hlen, Nat.min_self, eAt_all hlen]; simp
            · rw [deqs_len hlen]
              have : (xs.length == ys.length) = false := by simpa using hlen
              rw [this, Bool.and_false]
          rw [e] at key
          exact key
      | _ => exact hl.elim
    | l xs =>
      cases e with
      | l ys =>
        have hu' : A.units < cLine := by omega
        unfold dep at hn
        have h1' := h1
        have h2' := h2
        obtain ⟨a, vs, rfl, q1, a1⟩ := h1
        obtain ⟨b, ws, rfl, q2, a2⟩ := h2
        cases rx
        cases ry
        by_cases hab : a = b
        · subst hab
          have := AtD.uniq I (n + 1) (d := .l xs) (by unfold dep; omega) h1' h2' hl
          rw [this]
          exact SeqAt.EqAt.same _
        · obtain ⟨us, r1, t1, _⟩ := I.list q1
          obtain ⟨zs, r2, t2, _⟩ := I.list q2
          have lx : us.length = xs.length := r1.length.symm.trans a1.len
          have ly : zs.length = ys.length := r2.length.symm.trans a2.len
          by_cases hlen : xs.length = ys.length
          · have key := SeqAt.EqAt.of_refs hab (SeqAt.RcAt.lists (e := eAt xs ys) t1.isList t2.isList (by simp; omega) hu' (item (by omega) r1 r2 a1 a2 hl))
            rw [List.size_toArray, lx, eAt_all hlen] at key
            exact key
          · have key := SeqAt.EqAt.of_refs hab (SeqAt.RcAt.lists_lengths t1.isList t2.isList (by simp; omega) hu')
            rw [← deqs_len hlen] at key
            exact key
      | _ => exact hl.elim
    | i a => exact flat rfl rx ry h1 h2 hl
    | b a => exact flat rfl rx ry h1 h2 hl
    | s a => exact flat rfl rx ry h1 h2 hl
end
end L2

namespace L2
open PySem PySem.Spec PyProof.Rows
noncomputable def rEqD (K : PySem.W.Frag) (neg : Bool) : R2 := fun x y H Q => ∃ d e, AtD K H x d ∧ AtD K H y e ∧ like d e ∧ 0 < dep d ∧ dep d ≤ 60 ∧ Q (.bl (if neg then !deq d e else deq d e)) H
section
variable {X : Cx}
theorem seq_items {pins : List (Addr × Obj)} {σ : St} {H : Hp} {s : Shared} (I : Inv X pins σ H s) {A : Around} (hu : A.units + 64 < cLine) {vs ws : List V} {us zs : List Value} {xs ys : List Dt} (hd : deps xs ≤ 59) (r1 : Vals vs us) (r2 : Vals ws zs)
    (a1 : AtDs X.K H vs xs) (a2 : AtDs X.K H ws ys) (hl : likes xs ys) (j : Nat) (j1 : j < us.toArray.size) (j2 : j < zs.toArray.size) : SeqAt.EqAt A.in1 s us.toArray[j] zs.toArray[j] (eAt xs ys j) := by
  have k1 : j < vs.length := by rw [r1.length]; simpa using j1
  have k2 : j < ws.length := by rw [r2.length]; simpa using j2
  obtain ⟨u1, e1, q1⟩ := r1.get (List.getElem?_eq_getElem k1)
  obtain ⟨z1, e2, q2⟩ := r2.get (List.getElem?_eq_getElem k2)
  obtain ⟨x1, f1, g1⟩ := a1.at (List.getElem?_eq_getElem k1)
  obtain ⟨y1, f2, g2⟩ := a2.at (List.getElem?_eq_getElem k2)
  have m1 : us.toArray[j] = u1 := by
    have : us[j]? = some us.toArray[j] := by simp
    rw [e1] at this; exact (Option.some.inj this).symm
  have m2 : zs.toArray[j] = z1 := by
    have : zs[j]? = some zs.toArray[j] := by simp
    rw [e2] at this; exact (Option.some.inj this).symm
  rw [m1, m2]
  unfold eAt
  rw [f1, f2]
  exact AtD.eq I 59 (A := A.in1) (Nat.le_trans (deps_le f1) hd) (by show A.units + 1 + 59 < cLine; omega) q1 q2 g1 g2 (hl.at f1 f2)
theorem op_eqN (hu : X.A.units + 64 < cLine) (neg : Bool) : OpR X (compareOp (if neg then .NotEq else .Eq)) (rEqD X.K neg) := by
  intro pins s σ H x y v u Q I rx ry h
  obtain ⟨d, e, h1, h2, hl, h0, hd, q⟩ := h
  have hu' : X.A.units < cLine := by omega
  cases d with
  | t xs =>
    cases e with
    | t ys =>
      unfold dep at hd
      obtain ⟨a, vs, rfl, q1, a1⟩ := h1
      obtain ⟨b, ws, rfl, q2, a2⟩ := h2
      cases rx
      cases ry
      obtain ⟨us, r1, t1, _⟩ := I.tuple q1
      obtain ⟨zs, r2, t2, _⟩ := I.tuple q2
      have lx : us.length = xs.length := r1.length.symm.trans a1.len
      have ly : zs.length = ys.length := r2.length.symm.trans a2.len
      have e : ((List.range (min us.toArray.size zs.toArray.size)).all (eAt xs ys) && us.toArray.size == zs.toArray.size) = deqs xs ys := by
        rw [List.size_toArray, List.size_toArray, lx, ly]
        by_cases hlen : xs.length = ys.length
        · rw [← hlen, Nat.min_self, eAt_all hlen]; simp
        · rw [deqs_len hlen]
          have : (xs.length == ys.length) = false := by simpa using hlen
          rw [this, Bool.and_false]
      have it := seq_items I hu (by omega) r1 r2 a1 a2 hl
      cases neg with
      | false =>
        have key := SeqAt.RcAt.tuples (A := X.A) (e := eAt xs ys) t1 t2 hu' it
        rw [e] at key
        exact key X.prog X.w _ _ ⟨.bl (deqs xs ys), H, I, rfl, q⟩
      | true =>
        have key := SeqAt.RcNeAt.tuples (A := X.A) (e := eAt xs ys) t1 t2 hu' it
        rw [e] at key
        exact key X.prog X.w _ _ ⟨.bl (!deqs xs ys), H, I, rfl, q⟩
    | _ => exact hl.elim
  | l xs =>
    cases e with
    | l ys =>
      unfold dep at hd
      obtain ⟨a, vs, rfl, q1, a1⟩ := h1
      obtain ⟨b, ws, rfl, q2, a2⟩ := h2
      cases rx
      cases ry
      obtain ⟨us, r1, t1, _⟩ := I.list q1
      obtain ⟨zs, r2, t2, _⟩ := I.list q2
      have lx : us.length = xs.length := r1.length.symm.trans a1.len
      have ly : zs.length = ys.length := r2.length.symm.trans a2.len
      have it := seq_items I hu (by omega) r1 r2 a1 a2 hl
      by_cases hlen : xs.length = ys.length
      · cases neg with
        | false =>
          have key := SeqAt.RcAt.lists (A := X.A) (e := eAt xs ys) t1.isList t2.isList (by simp; omega) hu' it
          rw [List.size_toArray, lx, eAt_all hlen] at key
          exact key X.prog X.w _ _ ⟨.bl (deqs xs ys), H, I, rfl, q⟩
        | true =>
          have key := SeqAt.RcNeAt.lists (A := X.A) (e := eAt xs ys) t1.isList t2.isList (by simp; omega) hu' it
          rw [List.size_toArray, lx, eAt_all hlen] at key
          exact key X.prog X.w _ _ ⟨.bl (!deqs xs ys), H, I, rfl, q⟩
      · have ed := deqs_len hlen
        have q' : Q (.bl (if neg then !deqs xs ys else deqs xs ys)) H := q
        rw [ed] at q'
        cases neg with
        | false => exact SeqAt.RcAt.lists_lengths (A := X.A) t1.isList t2.isList (by simp; omega) hu' X.prog X.w _ _ ⟨.bl false, H, I, rfl, q'⟩
        | true => exact SeqAt.RcNeAt.lists_lengths (A := X.A) t1.isList t2.isList (by simp; omega) hu' X.prog X.w _ _ ⟨.bl true, H, I, rfl, q'⟩
    | _ => exact hl.elim
  | i a => exact absurd h0 (by unfold dep; omega)
  | b a => exact absurd h0 (by unfold dep; omega)
  | s a => exact absurd h0 (by unfold dep; omega)
theorem op_eqD (hu : X.A.units + 64 < cLine) : OpR X (compareOp .Eq) (rEqD X.K false) := op_eqN hu false
theorem op_neD (hu : X.A.units + 64 < cLine) : OpR X (compareOp .NotEq) (rEqD X.K true) := op_eqN hu true
end
end L2

namespace Tim
open PySem PyProof.Rows
noncomputable def OrdAll (prog : Program) (w : World) (Hs : Shared → Prop) (kd : SortKind) (Ok : Keyed → Prop) (R : Keyed → Keyed → Bool) : Prop := ∀ A E s, Hs s → Ord (model prog w) A E s kd Ok R
section
variable {prog : Program} {w : World} {A : Around} {E : Value → Shared → Prop} {s : Shared} {kd : SortKind} {Ok : Keyed → Prop} {R : Keyed → Keyed → Bool} {Hs : Shared → Prop}
theorem pairs_mem {vs : List Value} {x : Keyed} (h : x ∈ (pairsOf vs).toList) : x.1 = x.2 ∧ x.2 ∈ vs := by
  rw [pairsOf_toList] at h
  obtain ⟨i, hi, e⟩ := List.mem_iff_getElem.mp h
  rw [List.getElem_zip] at e
  subst e
  exact ⟨rfl, List.getElem_mem _⟩
theorem list_sort_any {a : Addr} {vs : List Value} {n : Nat} {P : PySem.Fin → Shared → Prop} (ho : s.heap.get? a = some (seqObj "list" vs.toArray n)) (hz : vs.length ≤ sizeLine)
    (hH : ∀ s' : Shared, (∀ b o, b ≠ a → s.heap.get? b = some o → s'.heap.get? b = some o) → Hs s') (hO : OrdAll prog w Hs kd Ok R) (hOk : 2 ≤ vs.length → ∀ v ∈ vs, Ok (v, v))
    (hK : 2 ≤ vs.length → ∀ (A : Around) (E : Value → Shared → Prop) (s' : Shared) (Q : SortKind → Shared → Prop), Hs s' → Q kd s' → wpAny (model prog w) A (keyKind' vs.toArray) Q E s')
    (h : ∀ out : List Value, out.Perm vs → out.Pairwise (fun u v => le R (u, u) (v, v)) → P (.done (.ret .none)) { s with heap := sortedHeap s.heap a vs out.toArray }) :
    wpAny (model prog w) A (Builtin.«list.sort» ⟨[.ref a], []⟩) P E s := by
  rw [list_sort_plain]
  have ha : a < s.heap.objs.size := Heap.lt_size ho
  refine wpAny_bind (listItems_at ho rfl ?_)
  refine wpAny_bind (listUpdate_at ho rfl ?_ (by simpa using hz))
  obtain ⟨e1, ho1⟩ : ∃ e1, (s.heap.update a (Obj.mapSeq fun _ => #[])).get? a = some (seqObj "list" #[] e1) := ⟨_, get?_update_seq ho (fun _ => #[])⟩
  refine wpAny_bind (seqEpoch_at ho1 rfl ?_)
  refine wpAny_bind (wpAny_newTuple ?_ (by simpa using hz))
  refine wpAny_bind (wpAny_newList ?_)
  refine wpAny_holding ?_
  generalize hhp : ((s.heap.update a (Obj.mapSeq fun _ => #[])).push (seqObj "tuple" vs.toArray 0)).push (seqObj "list" #[] 0) = hp
  have ho6 : hp.get? a = some (seqObj "list" #[] e1) := by
    rw [← hhp, Heap.get?_push_ne _ _ _ (by rw [size_push', Heap.size_update]; exact Nat.ne_of_lt (Nat.lt_succ_of_lt ha)), Heap.get?_push_ne _ _ _ (by rw [Heap.size_update]; exact Nat.ne_of_lt ha)]
    exact ho1
  have hst : Hs { s with heap := hp } := hH _ fun b o hb e => by
    show hp.get? b = some o
    rw [← hhp]
    exact Heap.get?_push_of_some _ (Heap.get?_push_of_some _ ((Heap.get?_update_other _ _ (Ne.symm hb)).trans e))
  show wpAny (model prog w) A _ P E { s with heap := hp }
  dsimp only
  have hsz : vs.toArray.size = vs.length := by simp
  have fin : ∀ out : Array Value, out.size = vs.length → P (.done (.ret .none)) { s with heap := sortedHeap s.heap a vs out } → P (.done (.ret .none)) { s with heap := hp.update a (Obj.mapSeq fun _ => out) } := fun out _ q => by
    unfold sortedHeap at q
    rw [hhp] at q
    exact q
  by_cases h2 : vs.toArray.size < 2
  · rw [if_pos h2, if_pos h2]
    refine wpAny_bind (wpAny_pure ?_)
    rw [StateT.run_pure]
    refine wpAny_bind (wpAny_pure ?_)
    dsimp only
    refine wpAny_bind (seqEpoch_at ho6 rfl ?_)
    have em : (pairsOf vs).map (·.2) = vs.toArray := by
      apply Array.toList_inj.mp
      rw [Array.toList_map, pairsOf_toList]
      exact List.map_snd_zip (by simp)
    refine wpAny_bind (listUpdate_at ho6 rfl ?_ (by simp) (by show ((pairsOf vs).map (·.2)).size ≤ sizeLine + 1; rw [em]; simp; omega))
    simp only [bne_self_eq_false, Bool.false_eq_true, if_false]
    refine wpAny_pure ?_
    show P _ { s with heap := hp.update a (Obj.mapSeq fun _ => (pairsOf vs).map (·.2)) }
    rw [em]
    refine fin _ hsz (h vs (List.Perm.refl _) ?_)
    match vs, h2 with
    | [], _ => exact List.Pairwise.nil
    | [_], _ => exact List.pairwise_singleton _ _
    | _ :: _ :: _, h2 => simp at h2; omega
  · rw [if_neg h2, if_neg h2]
    have h2' : 2 ≤ vs.length := by omega
    refine wpAny_bind (hK h2' A _ _ _ hst ?_)
    have O := hO A E { s with heap := hp } hst
    refine wpAny_bind (wpAny_mono (wpS_sortAll O (a₀ := pairsOf vs) (fun x hx => ?_) (st := SortSt.mk' kd (vs.toArray.zip vs.toArray) #[] 7 none)
      (Q := fun _ st' => (arrOf st').Perm (pairsOf vs) ∧ failedOf st' = none ∧ Srt R (arrOf st') 0 (pairsOf vs).size) (Array.Perm.refl _) rfl rfl rfl (by rw [pairsOf_size]; exact h2') fun st' a1 a2 a3 => ⟨a1, a2, a3⟩) ?_ fun _ _ e => e)
    · obtain ⟨q1, q2⟩ := pairs_mem hx
      have : x = (x.2, x.2) := Prod.ext q1 rfl
      rw [this]; exact hOk h2' _ q2
    · rintro ⟨⟨⟩, st'⟩ s' ⟨rfl, hp', hf, hs⟩
      dsimp only
      have zp : ((arrOf st').map (·.2)).size = vs.length := by rw [Array.size_map, hp'.size_eq, pairsOf_size]
      refine wpAny_bind (seqEpoch_at ho6 rfl ?_)
      refine wpAny_bind (listUpdate_at ho6 rfl ?_ (by simp) (by show ((arrOf st').map (·.2)).size ≤ sizeLine + 1; omega))
      rw [hf]
      simp only [bne_self_eq_false, Bool.false_eq_true, if_false]
      refine wpAny_pure (fin _ zp ?_)
      have perm : (((arrOf st').map (·.2)).toList).Perm vs := by
        rw [Array.toList_map]
        have := (Array.perm_iff_toList_perm.mp hp').map (fun x : Keyed => x.2)
        rw [pairsOf_toList, List.map_snd_zip (by simp)] at this
        exact this
      have := h ((arrOf st').map (·.2)).toList perm ?_
      · rwa [Array.toArray_toList] at this
      · rw [List.pairwise_iff_getElem]
        intro i j hi hj hij
        have li : i < (arrOf st').size := by simpa using hi
        have lj : j < (arrOf st').size := by simpa using hj
        have q := hs i j (Nat.zero_le _) (by omega) (by rw [← hp'.size_eq]; exact lj)
        have gi : ∀ {t : Nat} (ht : t < (arrOf st').size) (ht' : t < ((arrOf st').map (·.2)).toList.length), g (arrOf st') t = (((arrOf st').map (·.2)).toList[t], ((arrOf st').map (·.2)).toList[t]) := fun {t} ht ht' => by
          have m : g (arrOf st') t ∈ (arrOf st').toList := List.mem_of_getElem? (g_list ht)
          obtain ⟨q1, _⟩ := pairs_mem ((Array.perm_iff_toList_perm.mp hp').mem_iff.mp m)
          have e2 : ((arrOf st').map (·.2)).toList[t]? = some (g (arrOf st') t).2 := by
            rw [Array.toList_map, List.getElem?_map, g_list ht]; rfl
          rw [List.getElem?_eq_getElem ht'] at e2
          rw [Option.some.inj e2]
          exact Prod.ext q1 rfl
        rw [gi li hi, gi lj hj] at q
        exact q
theorem call_sorted_seq {l : Addr} {T : String} {o : Obj} {vs : List Value} {n : Nat} {Q : Value → Shared → Prop} (hT : T = "list" ∨ T = "tuple") (ho : s.heap.get? l = some o) (hc : o.cls = .type T) (hd : o.data = .seq vs.toArray n) (hz : vs.length ≤ sizeLine)
    (hH : ∀ s' : Shared, (∀ b o, s.heap.get? b = some o → s'.heap.get? b = some o) → Hs s') (hO : OrdAll prog w Hs kd Ok R) (hOk : 2 ≤ vs.length → ∀ v ∈ vs, Ok (v, v))
    (hK : 2 ≤ vs.length → ∀ (A : Around) (E : Value → Shared → Prop) (s' : Shared) (Q : SortKind → Shared → Prop), Hs s' → Q kd s' → wpAny (model prog w) A (keyKind' vs.toArray) Q E s')
    (h : ∀ (out : List Value) (h1 h' : Heap) (e : Nat), out.Perm vs → out.Pairwise (fun u v => le R (u, u) (v, v)) → (∀ b o, s.heap.get? b = some o → h1.get? b = some o) → (∀ b o, h1.get? b = some o → h'.get? b = some o) →
      h'.get? h1.objs.size = some { cls := .type "list", data := .seq out.toArray e } → Q (.ref h1.objs.size) { s with heap := h' }) :
    wpAny (model prog w) A (call (.builtin "sorted") [.ref l]) Q E s := by
  refine Calls.call_function_entry kind_sorted plain_sorted entry_sorted (args_sorted1 _) ?_
  unfold Builtin.«sorted»
  refine wpAny_bind (m := checkCount "sorted" 1 1 _) (wpAny_pure ?_)
  refine wpAny_bind (wpAny_collect_seq l hT ho hc hd (fun h1 k1 => ?_) (by simpa using hz))
  refine wpAny_bind (wpAny_newList ?_ (by simpa using hz))
  have hoL : (h1.push (seqObj "list" vs.toArray 0)).get? h1.objs.size = some (seqObj "list" vs.toArray 0) := Heap.get?_push_size _ rfl
  have hne : ∀ {b : Addr} {o : Obj}, h1.get? b = some o → b ≠ h1.objs.size := fun e => Nat.ne_of_lt (Heap.lt_size e)
  refine wpAny_bind (wpAny_holding (wpAny_call_entry slot_list_sort ⟨_, hoL, rfl⟩ entry_list_sort (list_sort_any (Hs := Hs) hoL hz (fun s' k => hH s' fun b o e => k b o (hne (k1 b o e)) (Heap.get?_push_of_some _ (k1 b o e))) hO hOk hK fun out q1 q2 => ⟨_, rfl, ?_⟩) (args_list_sort _)))
  refine wpAny_pure ⟨_, rfl, ?_⟩
  obtain ⟨e, he⟩ := sortedHeap_at (out := out.toArray) hoL
  exact h out h1 _ e q1 q2 k1 (fun b o eb => by
    rw [sortedHeap_old (hne eb) (by rw [Heap.size_push]; exact Nat.lt_succ_of_lt (Heap.lt_size eb))]
    exact Heap.get?_push_of_some _ eb) he
end
end Tim

namespace Tim
open PySem PyProof.Rows
section
variable {prog : Program} {w : World}
theorem ord_int : OrdAll prog w (fun _ => True) oneType' (fun x => ∃ n t, x.1 = .int n t) (fun x y => decide (numOf x.1 < numOf y.1)) := fun A E s _ => {
  lt := fun {x y st Q} hx hy hk h => by
    obtain ⟨a, t, ha⟩ := hx
    obtain ⟨c, u, hc⟩ := hy
    rw [lt'_eq]
    refine wpS_bind (wpS_get ?_)
    rw [ha, hc] at h ⊢
    rw [hk, keyLt'_oneType]
    exact wpS_bind (wpS_lift (wpAny_attempt (oneLt_int ⟨rfl, wpS_pure h⟩)))
  asymm := fun x y h => by
    have h' : numOf x.1 < numOf y.1 := by simpa using h
    exact decide_eq_false (by omega)
  neg := fun x y z h => by
    have h' : numOf x.1 < numOf z.1 := by simpa using h
    by_cases q : numOf x.1 < numOf y.1
    · exact .inl (by simpa using q)
    · exact .inr (by simp; omega) }
theorem lex_asymm : ∀ a c : List Int, HT.lexLt a c = true → HT.lexLt c a = false
  | [], [], h => by cases h
  | [], _ :: _, _ => rfl
  | _ :: _, [], h => by cases h
  | x :: xs, y :: ys, h => by
    rw [HT.lexLt_cons] at h ⊢
    by_cases e : x = y
    · rw [if_pos e] at h
      rw [if_pos e.symm]
      exact lex_asymm xs ys h
    · rw [if_neg e] at h
      rw [if_neg (Ne.symm e)]
      have h' : x < y := by simpa using h
      exact decide_eq_false (by omega)
theorem lex_neg : ∀ a b c : List Int, HT.lexLt a c = true → HT.lexLt a b = true ∨ HT.lexLt b c = true
  | [], b, [], h => by cases h
  | [], [], _ :: _, h => .inr h
  | [], _ :: _, _ :: _, _ => .inl rfl
  | _ :: _, b, [], h => by cases h
  | x :: xs, [], z :: zs, _ => .inr rfl
  | x :: xs, y :: ys, z :: zs, h => by
    rw [HT.lexLt_cons] at h ⊢
    rw [HT.lexLt_cons]
    by_cases e : x = z
    · subst e
      rw [if_pos rfl] at h
      by_cases q : x = y
      · subst q
        rw [if_pos rfl, if_pos rfl]
        exact lex_neg xs ys zs h
      · rw [if_neg q, if_neg (Ne.symm q)]
        by_cases g : x < y
        · exact .inl (by simpa using g)
        · exact .inr (by simp; omega)
    · rw [if_neg e] at h
      have h' : x < z := by simpa using h
      by_cases q : x = y
      · subst q
        right
        rw [if_neg e]; exact h
      · rw [if_neg q]
        by_cases g : x < y
        · exact .inl (by simpa using g)
        · right
          rw [if_neg (by omega)]
          simp; omega
noncomputable def intsIn (h : Heap) : Value → List Int
  | .ref a => match h.get? a with
    | some o => match o.data with
      | .seq xs _ => xs.toList.map numOf
      | _ => []
    | none => []
  | _ => []
noncomputable def TupIn (h : Heap) (v : Value) : Prop := ∃ a o xs n, v = .ref a ∧ h.get? a = some o ∧ o.cls = .type "tuple" ∧ o.data = .seq xs n ∧ (∀ x ∈ xs.toList, ∃ i t, x = .int i t) ∧ 0 < xs.size
theorem kat_ints {A : Around} {s : Shared} {fin b : Bool} {Q : Bool → Shared → Prop} : ∀ (xs ys : List Value) (i : Nat), (∀ x ∈ xs, ∃ i t, x = Value.int i t) → (∀ y ∈ ys, ∃ i t, y = Value.int i t) → xs.length ≤ ys.length ∨ ys.length ≤ xs.length →
    fin = decide (xs.length < ys.length) → Q (HT.lexLt (xs.map numOf) (ys.map numOf)) s → PySem.W.KatLex prog w A b fin Q (xs.zip ys) i s
  | [], [], i, _, _, _, e, h => by
    subst e
    exact h
  | [], _ :: _, i, _, _, _, e, h => by
    subst e
    exact h
  | _ :: _, [], i, _, _, _, e, h => by
    subst e
    exact h
  | x :: xs, y :: ys, i, hx, hy, hl, e, h => by
    obtain ⟨a, t, rfl⟩ := hx x List.mem_cons_self
    obtain ⟨c, u, rfl⟩ := hy y List.mem_cons_self
    have h' : Q (if a = c then HT.lexLt (xs.map numOf) (ys.map numOf) else decide (a < c)) s := h
    rw [List.zip_cons_cons]
    refine PySem.W.kat_cons (SeqAt.EqAt.int_int a t c u prog w _ _ ?_)
    by_cases q : a = c
    · have e1 : (a == c) = true := by simpa using q
      rw [e1]
      rw [if_pos q] at h'
      refine PySem.W.kat_yes (kat_ints xs ys (i + 1) (fun z hz => hx z (List.mem_cons_of_mem _ hz)) (fun z hz => hy z (List.mem_cons_of_mem _ hz)) (by simpa using hl) ?_ h')
      rw [e]; simp
    · have e1 : (a == c) = false := by simpa using q
      rw [e1]
      rw [if_neg q] at h'
      refine PySem.W.kat_no ?_
      cases (b && i == 0) with
      | true => exact oneLt_int h'
      | false =>
        refine PySem.W.kat_one _ _ ?_
        exact lt_int h'
theorem ord_tup {h₀ : Heap} : OrdAll prog w (fun s => ∀ b o, h₀.get? b = some o → s.heap.get? b = some o) (tuples' true) (fun x => TupIn h₀ x.1) (fun x y => HT.lexLt (intsIn h₀ x.1) (intsIn h₀ y.1)) := fun A E s hs => {
  lt := fun {x y st Q} hx hy hk h => by
    obtain ⟨a, oa, xs, n, ea, ha, ca, da, ia, _⟩ := hx
    obtain ⟨c, oc, ys, m, ec, hc, cc, dc, ic, _⟩ := hy
    rw [lt'_eq]
    refine wpS_bind (wpS_get ?_)
    have h' : Q (some (HT.lexLt (xs.toList.map numOf) (ys.toList.map numOf))) st := by
      have e1 : intsIn h₀ x.1 = xs.toList.map numOf := by rw [ea]; simp only [intsIn, ha, da]
      have e2 : intsIn h₀ y.1 = ys.toList.map numOf := by rw [ec]; simp only [intsIn, hc, dc]
      rw [e1, e2] at h; exact h
    rw [hk, ea, ec]
    refine wpS_bind (wpS_lift (wpAny_attempt (PySem.W.kat_lt (hs _ _ ha) da (hs _ _ hc) dc ?_)))
    exact kat_ints _ _ 0 ia ic (Nat.le_total _ _) (by simp) ⟨rfl, wpS_pure h'⟩
  asymm := fun x y h => lex_asymm _ _ h
  neg := fun x y z h => lex_neg _ _ _ h }
end
end Tim

namespace L2
open PySem PySem.Spec PyProof.Rows
theorem ints_vals : ∀ {vs : List Value} {ns : List Int}, Vals (ns.map V.int) vs → IntsAre vs ns
  | [], [], _ => .nil
  | _ :: _, n :: ns, .cons r t => by
    obtain ⟨k, rfl⟩ := r
    exact .cons n k (ints_vals t)
theorem ints_num {vs : List Value} {ns : List Int} (h : IntsAre vs ns) : ns = vs.map numOf := by
  induction h with
  | nil => rfl
  | cons n t _ ih => rw [List.map_cons, ← ih]; rfl
theorem vals_num : ∀ {vs : List Value}, (∀ v ∈ vs, ∃ n t, v = Value.int n t) → Vals ((vs.map numOf).map V.int) vs
  | [], _ => .nil
  | v :: vs, h => by
    obtain ⟨n, t, rfl⟩ := h v List.mem_cons_self
    exact .cons ⟨t, rfl⟩ (vals_num fun z hz => h z (List.mem_cons_of_mem _ hz))
theorem ints_all {vs : List Value} {ns : List Int} (h : IntsAre vs ns) : ∀ v ∈ vs, ∃ n t, v = Value.int n t := by
  induction h with
  | nil => intro v hv; cases hv
  | cons n t _ ih =>
    intro v hv
    rcases List.mem_cons.mp hv with rfl | hv
    · exact ⟨n, t, rfl⟩
    · exact ih v hv
section
variable {X : Cx}
theorem call_sortedI : CallR X (.builtin "sorted") (fun xs H Q => ∃ (p : Addr) (ns : List Int), xs = [.ref p] ∧ (SqL X.K H p (ns.map V.int) ∨ SqT X.K H p (ns.map V.int)) ∧
    ∀ (l : Addr) (ms : List Int), H l = none → ms.Perm ns → ms.Pairwise (· ≤ ·) → Q (.ref l) (upd H l (.lst (ms.map V.int)))) := by
  intro pins s σ H xs us Q I r h
  obtain ⟨p, ns, rfl, hq, q⟩ := h
  obtain ⟨u, rfl, rx⟩ := r.one
  cases rx
  have main : ∀ {T : String} {o : Obj} {its : List Value} {n : Nat}, T = "list" ∨ T = "tuple" → s.heap.get? p = some o → o.cls = .type T → o.data = .seq its.toArray n → Vals (ns.map V.int) its → (ns.map V.int).length ≤ sizeLine →
      wpAny (model X.prog X.w) X.A (call (.builtin "sorted") [.ref p]) (EP X pins σ Q) X.xe s := by
    intro T o its n hT ho hc hd rv hz
    have hi := ints_vals rv
    have hz' : its.length ≤ sizeLine := by rw [← rv.length]; exact hz
    refine Tim.call_sorted_seq (Hs := fun _ => True) hT ho hc hd hz' (fun _ _ => trivial) Tim.ord_int (fun _ => ints_all hi) (fun h2 A E s' Q' _ hq => ?_) fun out h1 h2 e hp hs k1 k2 hD => ?_
    · match its, hi, h2 with
      | v1 :: v2 :: vs, hi, _ => rw [keyKind_ints hi]; exact wpAny_pure hq
      | [_], _, h2 => simp at h2
      | [], _, h2 => simp at h2
    · have hall : ∀ v ∈ out, ∃ n t, v = Value.int n t := fun v hv => ints_all hi v (hp.mem_iff.mp hv)
      have I1 : Inv X pins σ H { s with heap := h1 } := I.kept (t' := s.toks) k1
      have hlen : ((out.map numOf).map V.int).length ≤ sizeLine := by simpa [hp.length_eq] using hz'
      have I2 : Inv X pins σ (upd H h1.objs.size (.lst ((out.map numOf).map V.int))) { s with heap := h2 } := I1.laid (t' := s.toks) k2 (Nat.le_refl _) ⟨hlen, out, e, vals_num hall, hD⟩
      refine ⟨.ref h1.objs.size, _, I2, rfl, q _ _ (I1.hok.fresh (Nat.le_refl _)) ?_ ?_⟩
      · rw [ints_num hi]; exact hp.map _
      · rw [List.pairwise_map]
        refine hs.imp fun {a b} hab => ?_
        have : ¬ numOf b < numOf a := by simpa [Tim.le] using hab
        omega
  rcases hq with hq | hq
  · obtain ⟨its, rv, ⟨o, n, ho, hc, _, hd⟩, hz⟩ := I.list hq
    exact main (.inl rfl) ho hc hd rv hz
  · obtain ⟨its, rv, ⟨o, ho, hc, n, hd⟩, hz⟩ := I.tuple hq
    exact main (.inr rfl) ho hc hd rv hz
noncomputable def TupsAt (K : PySem.W.Frag) (H : Hp) (as : List Addr) (F : List (List Int)) : Prop := Paired (fun a xs => SqT K H a (xs.map V.int)) as F
theorem call_sortedT : CallR X (.builtin "sorted") (fun xs H Q => ∃ (p : Addr) (as : List Addr) (F : List (List Int)), xs = [.ref p] ∧ SqL X.K H p (as.map V.ref) ∧ TupsAt X.K H as F ∧ (∀ x ∈ F, x ≠ []) ∧
    ∀ (l : Addr) (bs : List Addr) (G : List (List Int)), H l = none → TupsAt X.K H bs G → (bs.zip G).Perm (as.zip F) → G.Pairwise (fun x y => HT.lexLt y x = false) → Q (.ref l) (upd H l (.lst (bs.map V.ref)))) := by
  intro pins s σ H xs us Q I r h
  obtain ⟨p, as, F, rfl, hq, ht, hne, q⟩ := h
  obtain ⟨u, rfl, rx⟩ := r.one
  cases rx
  obtain ⟨its, rv, ⟨o, n, ho, hc, _, hd⟩, hz⟩ := I.list hq
  have hits : its = as.map Value.ref := by
    clear hq ht q ho hc hd hz
    revert its
    induction as with
    | nil => intro its rv; cases rv; rfl
    | cons a as ih => intro its rv; cases rv with | cons r t => rw [show _ = Value.ref a from r, ih _ t]; rfl
  have tup : ∀ {a : Addr} {xs : List Int}, SqT X.K H a (xs.map V.int) → xs ≠ [] → Tim.TupIn s.heap (.ref a) ∧ Tim.intsIn s.heap (.ref a) = xs := fun {a xs} hx hn => by
    obtain ⟨ts, rt, ⟨o, ho, hc, n, hd⟩, _⟩ := I.tuple hx
    have hi := ints_vals rt
    refine ⟨⟨a, o, ts.toArray, n, rfl, ho, hc, hd, ints_all hi, ?_⟩, ?_⟩
    · rw [List.size_toArray, ← rt.length, List.length_map]
      exact List.length_pos_iff.mpr hn
    · show (match s.heap.get? a with | some o => _ | none => _) = xs
      rw [ho]
      simp only [hd]
      exact (ints_num hi).symm
  have pairAll : ∀ {as : List Addr} {F : List (List Int)}, TupsAt X.K H as F → (∀ x ∈ F, x ≠ []) → (∀ a ∈ as, Tim.TupIn s.heap (.ref a)) ∧ F = as.map (fun a => Tim.intsIn s.heap (.ref a)) := by
    intro as F h
    induction h with
    | nil => intro _; exact ⟨(fun _ h => nomatch h), rfl⟩
    | cons r t ih =>
      intro hn
      obtain ⟨i1, i2⟩ := ih fun x hx => hn x (List.mem_cons_of_mem _ hx)
      obtain ⟨t1, t2⟩ := tup r (hn _ List.mem_cons_self)
      refine ⟨fun a ha => ?_, ?_⟩
      · rcases List.mem_cons.mp ha with rfl | ha
        · exact t1
        · exact i1 a ha
      · rw [List.map_cons, t2, ← i2]
  obtain ⟨hT, hF⟩ := pairAll ht hne
  have hz' : its.length ≤ sizeLine := by rw [← rv.length]; exact hz
  refine Tim.call_sorted_seq (.inl rfl) ho hc hd hz' (fun _ k => k) (Tim.ord_tup (h₀ := s.heap)) (fun _ v hv => ?_) (fun h2 A E s' Q' hs' hq' => ?_) fun out h1 h2 e hp hs k1 k2 hD => ?_
  · rw [hits] at hv
    obtain ⟨a, ha, rfl⟩ := List.mem_map.mp hv
    exact hT a ha
  · have kt : ∀ (l : List Addr), (∀ a ∈ l, Tim.TupIn s.heap (.ref a)) → ∃ fs, PySem.W.KatTups s'.heap (l.map Value.ref) fs ∧ fs.length = l.length ∧ ∀ f ∈ fs, ∃ i t, f = Value.int i t := by
      intro l
      induction l with
      | nil => intro _; exact ⟨[], trivial, rfl, (fun _ h => nomatch h)⟩
      | cons a l ih =>
        intro hl
        obtain ⟨fs, f1, f2, f3⟩ := ih fun b hb => hl b (List.mem_cons_of_mem _ hb)
        obtain ⟨a', o, xs, n, ea, ha, ca, da, ia, hpos⟩ := hl a List.mem_cons_self
        cases ea
        refine ⟨xs[0] :: fs, ⟨⟨a, o, xs, n, rfl, hs' _ _ ha, ca, da, by rw [Array.getElem?_eq_getElem hpos]⟩, f1⟩, by simp [f2], fun f hf => ?_⟩
        rcases List.mem_cons.mp hf with rfl | hf
        · exact ia _ (by simp)
        · exact f3 f hf
    obtain ⟨fs, f1, f2, f3⟩ := kt as hT
    rw [hits]
    refine PySem.W.kat_kind (T := .type "int") f1 (by rw [f2]; rw [hits] at h2; simp at h2; omega) (fun v hv => ?_) rfl hq'
    obtain ⟨i, t, rfl⟩ := f3 v hv
    exact .now
  · rw [hits] at hp
    obtain ⟨bs, rfl, hb⟩ : ∃ bs : List Addr, out = bs.map Value.ref ∧ bs.Perm as := by
      have : ∀ (l : List Value) (m : List Addr), l.Perm (m.map Value.ref) → ∃ bs : List Addr, l = bs.map Value.ref ∧ bs.Perm m := by
        intro l m hl
        let f : Value → Addr := fun v => match v with | .ref a => a | _ => 0
        have hall : ∀ v ∈ l, ∃ a, v = Value.ref a := fun v hv => by
          obtain ⟨a, _, e⟩ := List.mem_map.mp (hl.mem_iff.mp hv)
          exact ⟨a, e.symm⟩
        refine ⟨l.map f, ?_, ?_⟩
        · rw [List.map_map]
          have : ∀ v ∈ l, (Value.ref ∘ f) v = v := fun v hv => by obtain ⟨a, rfl⟩ := hall v hv; rfl
          exact (List.map_congr_left this |>.trans (List.map_id' l)).symm
        · have := hl.map f
          rw [List.map_map] at this
          have e2 : m.map (f ∘ Value.ref) = m := List.map_id'' (fun _ => rfl) m
          rwa [e2] at this
      exact this out as hp
    have I1 : Inv X pins σ H { s with heap := h1 } := I.kept (t' := s.toks) k1
    have rb : Vals (bs.map V.ref) (bs.map Value.ref) := by
      clear hb hs hp k1 k2 hD q
      induction bs with
      | nil => exact .nil
      | cons b bs ih => exact .cons rfl ih
    have hlen : (bs.map V.ref).length ≤ sizeLine := by rw [List.length_map, hb.length_eq]; simpa using hz
    have I2 : Inv X pins σ (upd H h1.objs.size (.lst (bs.map V.ref))) { s with heap := h2 } := I1.laid (t' := s.toks) k2 (Nat.le_refl _) ⟨hlen, _, e, rb, hD⟩
    refine ⟨.ref h1.objs.size, _, I2, rfl, q _ bs (bs.map fun a => Tim.intsIn s.heap (.ref a)) (I1.hok.fresh (Nat.le_refl _)) ?_ ?_ ?_⟩
    · -- each is a tuple with these ints
      have look : ∀ a ∈ as, SqT X.K H a ((Tim.intsIn s.heap (.ref a)).map V.int) := by
        clear q hb rb hlen I2 hp hs hits hq rv hz
        revert hT hF
        induction ht with
        | nil => intro _ _ a ha; cases ha
        | cons r t ih =>
          intro hT hF a ha
          have hF' := List.cons.inj hF
          rcases List.mem_cons.mp ha with rfl | ha
          · have e5 : _ = Tim.intsIn s.heap (.ref _) := hF'.1
            rw [← e5]; exact r
          · exact ih (fun x hx => hne x (List.mem_cons_of_mem _ hx)) (fun b hb => hT b (List.mem_cons_of_mem _ hb)) hF'.2 a ha
      have all : ∀ l : List Addr, (∀ a ∈ l, a ∈ as) → TupsAt X.K H l (l.map fun a => Tim.intsIn s.heap (.ref a)) := by
        intro l
        induction l with
        | nil => intro _; exact .nil
        | cons a l ih => intro hl; exact .cons (look a (hl a List.mem_cons_self)) (ih fun b hb => hl b (List.mem_cons_of_mem _ hb))
      exact all bs fun a ha => hb.mem_iff.mp ha
    · rw [hF]
      have e1 : ∀ l : List Addr, l.zip (l.map fun a => Tim.intsIn s.heap (.ref a)) = l.map fun a => (a, Tim.intsIn s.heap (.ref a)) := by
        intro l
        induction l with
        | nil => rfl
        | cons a l ih => rw [List.map_cons, List.zip_cons_cons, ih, List.map_cons]
      rw [e1, e1]
      exact hb.map _
    · rw [List.pairwise_map] at hs ⊢
      exact hs
end
end L2

namespace L2
open PySem PySem.Spec PyProof.Rows
section
variable {X : Cx} {pins : List (Addr × Obj)} {σ : St} {H : Hp} {s : Shared} {h2 : Heap}
theorem Inv.turnedL {t' : Nat} {ch : List Addr} (I : Inv X pins σ H s) (k : ∀ b o, b ∉ ch → s.heap.get? b = some o → h2.get? b = some o) (hf : ∀ b ∈ ch, FpOk X pins H b) : Inv X pins σ H { s with heap := h2, toks := t' } := by
  have nit : ∀ b u, H b = some u → b ∉ ch := fun b u e z => by rw [(hf b z).1] at e; cases e
  refine I.step (g' := s.gens) (d' := s.drawn) (ch := ch) (fun b hb => ?_) (fun b o _ _ hc e _ => k b o hc e) (fun b o _ _ hc e _ => ⟨o.slots, k b o hc e⟩) (fun _ _ _ _ n => n)
    (fun b o hc e => ⟨o, k b o hc e⟩) (fun _ _ e => e) (fun _ _ _ e => e) (fun b ps e => ⟨#[], by rw [e]; simp⟩) (fun m hm => ?_) (fun b u e => ?_) I.bare
  · obtain ⟨_, f1, _, f3, f4, f5⟩ := hf b hb
    exact ⟨f3, f1, f4, f5⟩
  · obtain ⟨o, es, ep, ho, r⟩ := hm
    exact ⟨o, es, ep, k _ o (fun z => (hf _ z).2.1 rfl) ho, r⟩
  · refine (I.hok b u e).stay (fun c v hc q => k c v ?_ q) (fun _ q => q) fun _ _ q => q
    rcases hc with z | z
    · rw [z]; exact nit b u e
    · exact nit c _ z
end
end L2

namespace Enu
open PySem PyProof.Rows
theorem nolen_lr : typeLookup (.type "list_reverseiterator") "__len__" = pure none := by rw [typeLookup_type, builtinLookup_eq_fast]; kernel_rfl
theorem hint_lr : typeLookup (.type "list_reverseiterator") "__length_hint__" = pure (some (.builtin "list_reverseiterator.__length_hint__")) := by rw [typeLookup_type, builtinLookup_eq_fast]; kernel_rfl
section
variable {prog : Program} {w : World} {A : Around} {E : Value → Shared → Prop} {s : Shared} {D : Addr} {fp wr : List Addr} {G : Array GenState → Array GenState → Prop} {n : Nat} {P : Nat → Value → Prop} {St : Nat → Shared → Prop}
theorem collect_rev {Q : List Value → Shared → Prop} (W : WalksS prog w A.in1 D fp wr G n P St) (hT : ∀ i s, St i s → s.TypeIs (.ref D) "list_reverseiterator") (hst : St 0 s) (hfp : ∀ b ∈ fp, b < s.heap.objs.size) (hD : D ∈ fp)
    (hQ : ∀ s' acc, Moved wr G s s' → ItemsOf P acc n → Q acc.toList s') (hn : n ≤ sizeLine) : wpAny (model prog w) A (collect (.ref D)) Q E s := by
  have k1 : s.heap.objs.size ∉ fp := fun hm => Nat.lt_irrefl _ (hfp _ hm)
  have k2 : s.heap.objs.size ≠ D := fun e => k1 (e ▸ hD)
  unfold collect
  refine wpAny_bind (wpAny_runValue (codeAny_builtin F.entry_proto_collect ?_))
  rw [Around.under_plainId F.plain_proto_collect _]
  show wpAny (model prog w) A.in1 (newList [] >>= fun l => again (.builtin "list.__iadd__" ⟨[l, .ref D], []⟩)) _ _ s
  refine wpAny_bind (wpAny_newObj_type ?_)
  refine wpAny_pure ⟨plainId_quiet F.plain_list_iadd _, codeAny_builtin F.entry_list_iadd ?_⟩
  rw [Around.under_plainId F.plain_list_iadd _]
  have st1 := W.frame 0 s (s.heap.push { cls := .type "list", data := .seq ([] : List Value).toArray }) s.toks hst (Nat.le_refl _) fun b _ o e => Heap.get?_push_of_some _ e
  have k3 : (s.heap.push { cls := .type "list", data := .seq ([] : List Value).toArray }).get? s.heap.objs.size = some { cls := .type "list", data := .seq ([] : List Value).toArray } := Heap.get?_push_size _ rfl
  have k4 : Builtin.List.listSameRef (.ref s.heap.objs.size) (.ref D) = false := by simp [Builtin.List.listSameRef, k2]
  show wpAny (model prog w) A.in1 (Builtin.List.listExtendWith (.ref s.heap.objs.size) (.ref D) (.ref s.heap.objs.size)) _ _ _
  unfold Builtin.List.listExtendWith
  refine wpAny_bind (wpAny_typeOf (hT 0 _ st1) ?_)
  rw [if_neg (by rw [k4]; decide)]
  refine wpAny_bind (W.self 0 _ _ _ st1 ?_)
  refine wpAny_bind (wpAny_holding ?_)
  unfold Builtin.List.listLengthHint
  refine wpAny_bind (wpAny_specialOf (hT 0 _ st1) nolen_lr ?_)
  show wpAny (model prog w) A.in1 (specialOf (Value.ref D) (Str.ofString "__length_hint__") >>= _) _ _ _
  refine wpAny_bind (wpAny_specialOf (hT 0 _ st1) hint_lr ?_)
  generalize hid : ("list_reverseiterator.__length_hint__" : String) = nm
  wp_delta
  rw [show splitId nm = some ("list_reverseiterator", "__length_hint__") from by subst hid; decide +kernel]
  subst hid
  refine wpAny_bind (wpAny_isInstance (b := true) (hT 0 _ st1) (by rw [isSubtype_type]; kernel_rfl) ?_)
  refine wpAny_pure ?_
  rw [if_neg (by decide)]
  refine wpAny_pure ⟨plainId_quiet F.plain_extend_loop _, codeAny_extend_loopS W hn _ k1 _ n 0 _ _ _ rfl (Nat.zero_le _) st1 k3 (ItemsOf.nil P) fun s' acc' c' hm hS' hacc => ?_⟩
  show wpAny (model prog w) A (load s.heap.objs.size >>= _) _ _ s'
  refine wpAny_bind (wpAny_load hS' ?_)
  exact wpAny_pure (hQ s' acc' (Moved.drop_new (o := { cls := .type "list", data := .seq ([] : List Value).toArray }) (tk := s.toks) hm (Nat.le_refl _)) hacc)
theorem tup_rev_code {Q : Value → Shared → Prop} (W : WalksS prog w A.in1.in1 D fp wr G n P St) (hT : ∀ i s, St i s → s.TypeIs (.ref D) "list_reverseiterator") (hst : St 0 s) (hfp : ∀ b ∈ fp, b < s.heap.objs.size) (hD : D ∈ fp)
    (h : ∀ s' acc, Moved wr G s s' → ItemsOf P acc n → Q (.ref s'.heap.objs.size) { s' with heap := s'.heap.push { cls := .type "tuple", data := .seq acc } }) (hn : n ≤ sizeLine) :
    codeAny (model prog w) A (.call (.builtin "tuple.__new__") ⟨[.type "tuple", .ref D], []⟩) (wants Q E) s := by
  refine codeAny_of_tree ?_
  show wpAny (model prog w) A.in1 (do checkBuiltinCall "tuple.__new__" ⟨[.type "tuple", .ref D], []⟩; again (.builtin "tuple.__new__" ⟨[.type "tuple", .ref D], []⟩)) _ _ s
  refine wpAny_bind (wpAny_of_eq (F.newCall_tuple_1 _) (wpAny_pure ⟨plainId_quiet F.plain_tuple_new _, codeAny_builtin F.entry_tuple_new ?_⟩))
  rw [Around.under_plainId F.plain_tuple_new _]
  have j1 := sub_tuple_self
  have j2 := init_tuple_lookup
  have j3 := madeHere_tuple
  have j4 := hT 0 s hst
  wp_walk using wpAny_typeOf j4, collect_rev W hT hst hfp hD
  rotate_left
  · exact hn
  intro s' acc hm hacc
  show wpAny (model prog w) _ (Builtin.Tuple.tupleExact acc.toList.toArray >>= fun v => ret v) _ _ _
  unfold Builtin.Tuple.tupleExact
  refine wpAny_bind (wpAny_newObj_type ?_ (by show acc.toList.toArray.size ≤ sizeLine; simp only [Array.toArray_toList]; rw [hacc.1]; exact hn))
  refine wpAny_pure ?_
  have e : acc.toList.toArray = acc := by simp
  rw [e]
  exact h s' acc hm hacc
theorem tup_rev {Q : Value → Shared → Prop} (W : WalksS prog w A.in1.in1.in1 D fp wr G n P St) (hT : ∀ i s, St i s → s.TypeIs (.ref D) "list_reverseiterator") (hst : St 0 s) (hfp : ∀ b ∈ fp, b < s.heap.objs.size) (hD : D ∈ fp)
    (hQ : ∀ s' acc, Moved wr G s s' → ItemsOf P acc n → Q (.ref s'.heap.objs.size) { s' with heap := s'.heap.push { cls := .type "tuple", data := .seq acc } }) (hn : n ≤ sizeLine) :
    wpAny (model prog w) A (call (.type "tuple") [.ref D]) Q E s := by
  refine callType_codes (Q₁ := fun obj s1 => s1.TypeIs obj "tuple" ∧ Q obj s1) F.called_tuple (F.typeCall_tuple_1 _) F.entry_object_init (tup_rev_code W hT hst hfp hD (fun s' acc hm hacc => ⟨⟨_, Heap.get?_push_size _ rfl, rfl⟩, hQ s' acc hm hacc⟩) hn) fun obj s1 h1 => ?_
  exact ⟨h1.1, F.args_object_init_2 obj _, object_init_meets F.called_tuple.init.lookup F.called_tuple.made (by decide) prog w A.in1 _ s1 ⟨h1.1, rfl, h1.2⟩⟩
end
end Enu

namespace L2
open PySem PySem.Spec PyProof.Rows
theorem vals_rev {vs : List V} {us : List Value} (h : Vals vs us) : Vals vs.reverse us.reverse := by
  have app : ∀ {a : List V} {b : List Value} {c : List V} {d : List Value}, Vals a b → Vals c d → Vals (a ++ c) (b ++ d) := by
    intro a b c d h1 h2
    induction h1 with
    | nil => exact h2
    | cons r t ih => exact .cons r ih
  induction h with
  | nil => exact .nil
  | cons r t ih => rw [List.reverse_cons, List.reverse_cons]; exact app ih (.cons r .nil)
section
variable {X : Cx} {e : Expr} {te : TE} {p q pos pos2 : Pos}
noncomputable def tTR (K : PySem.W.Frag) (te : TE) : TE := fun σ H Q => te σ H fun x H1 => ∃ a ys, x = .ref a ∧ SqL K H1 a ys ∧ ∀ t, H1 t = none → Q (.ref t) (upd H1 t (.tup ys.reverse))
theorem pe_tupRev (hc : X.calm = true) (hg : Gl X "tuple") (hm : X.mg "tuple" = none) (hg2 : Gl X "reversed") (hm2 : X.mg "reversed" = none) (he : PE X e te)
    (h1 : starEach [.Call (.Name "reversed" q) [e] [] pos2] X.env = [(false, eval (.Call (.Name "reversed" q) [e] [] pos2) X.env)] := by rfl) (h2 : starEach [e] X.env = [(false, eval e X.env)] := by rfl) :
    PE X (.Call (.Name "tuple" p) [.Call (.Name "reversed" q) [e] [] pos2] [] pos) (tTR X.K te) := by
  intro pins s σ H Q I h
  refine Call_name1 h1 (ld_blt I hg hm PyProof.Rows.boot_tuple (PySem.callWith_type1 ?_))
  refine Call_name1 h2 (ld_blt I hg2 hm2 PyProof.Rows.boot_reversed (PySem.callWith_type1 ?_))
  refine thn (he pins s σ H _ I h) fun v s1 ⟨x, H1, I1, r1, q1⟩ => ?_
  obtain ⟨a, ys, rfl, hq, k⟩ := q1
  cases r1
  obtain ⟨its, rv, pl, hz⟩ := I1.list hq
  have hz2 : its.length ≤ sizeLine := by rw [← rv.length]; exact hz
  refine call_reversed_list pl.isList ?_
  have hal : a < s1.heap.objs.size := by obtain ⟨o, _, e1, _⟩ := pl; exact Heap.lt_size e1
  have W := (Walks.listRev (prog := X.prog) (w := X.w) (A := X.A.in1.in1.in1) (I1.ok.hd hc) s1.heap.objs.size a (Nat.ne_of_lt hal) its.toArray).toS
  refine Enu.tup_rev W (fun i s' st => st.2.1.typeIs) ⟨Nat.zero_le _, ?_, pl.isList.push _⟩ (fun b hb => ?_) (by simp) (fun s' acc hm hacc => ?_) (by simpa using hz2)
  · have : ((its.toArray.size : Nat) : Int) - 1 - ((0 : Nat) : Int) = (its.toArray.size : Int) - 1 := by omega
    rw [this]
    exact ⟨_, Heap.get?_push_size _ rfl, rfl, rfl⟩
  · show b < (s1.heap.push _).objs.size
    rw [Heap.size_push]
    rcases List.mem_cons.mp hb with rfl | hb
    · exact Nat.lt_succ_self _
    · rw [List.mem_singleton.mp hb]; exact Nat.lt_succ_of_lt hal
  · have hacc2 : acc = its.reverse.toArray := by
      refine Array.ext (by simp [hacc.1]) fun i hi hi2 => ?_
      have := hacc.2 i acc[i] (by simp [hi])
      have hl : i < its.length := by simpa using hi2
      have e1 : its[its.length - 1 - i]? = some acc[i] := by simpa using this
      have e2 : its.reverse.toArray[i] = its[its.length - 1 - i]'(by omega) := by simp
      rw [List.getElem?_eq_getElem (by omega)] at e1
      rw [e2]
      exact (Option.some.inj e1).symm
    obtain ⟨hh, gg, dd, tt, oo⟩ := s'
    have g1 : gg = s1.gens := hm.gens
    have g2 : dd = s1.drawn := hm.drawn
    have g3 : oo = s1.os := hm.os
    subst g1 g2 g3 hacc2
    have k0 : ∀ b o, s1.heap.get? b = some o → hh.get? b = some o := fun b o e1 => hm.heap b o (by simp only [List.mem_singleton]; exact Nat.ne_of_lt (Heap.lt_size e1)) (Heap.get?_push_of_some _ e1)
    have J : Inv X pins σ H1 { s1 with heap := hh, toks := tt } := I1.kept k0
    have J2 : Inv X pins σ (upd H1 hh.objs.size (.tup ys.reverse)) { s1 with heap := hh.push { cls := .type "tuple", data := .seq its.reverse.toArray }, toks := tt } :=
      Inv.laid (s := { s1 with heap := hh, toks := tt }) J (fun b o e1 => Heap.get?_push_of_some _ e1) (Nat.le_refl _) ⟨by rw [List.length_reverse]; exact hz, its.reverse, vals_rev rv, _, Heap.get?_push_size _ rfl, rfl, _, rfl⟩
    exact ⟨.ref hh.objs.size, _, J2, rfl, k _ (J.hok.fresh (Nat.le_refl _))⟩
end
end L2

namespace Enu
open PySem PySem.Spec PyProof.Rows
section
variable {prog : Program} {w : World} {A : Around} {E : Value → Shared → Prop} {s : Shared}
end
end Enu

namespace L2
open PySem PySem.Spec PyProof.Rows
section
variable {X : Cx}
end
end L2

namespace L2
open PySem
theorem comps_by {own : List Str} {ix : List Nat} {g : TG} {te : TE} {σ : St} {J : It} {H1 : Hp} {D : Addr} {Q : Hp → Prop} (n : Nat) (Pv : Nat → Hp → Prop) (h0 : Pv 0 (upd H1 D (.lst [])))
    (hd : ∀ Hi, Pv n Hi → J.stop n Hi ∧ Q Hi)
    (hs : ∀ i Hi, i < n → Pv i Hi → J.go i Hi ∧ ∀ x H', J.yld i Hi x H' → g x (inS own ix σ) H' fun σ2 H2 => tYes σ2 H2 fun b H3 => if b = true then te σ2 H3 fun v H4 => ∃ ys, H4 D = some (.lst ys) ∧ ys.length < sizeLine ∧
      ∃ m', m' < n - i ∧ (m' = n - (i + 1) ∧ i + 1 ≤ n ∧ Pv (i + 1) (upd H4 D (.lst (ys ++ [v])))) else ∃ m', m' < n - i ∧ (m' = n - (i + 1) ∧ i + 1 ≤ n ∧ Pv (i + 1) H3)) : Comps own ix g tYes te σ J H1 D Q := by
  refine ⟨fun i m Hi => m = n - i ∧ i ≤ n ∧ Pv i Hi, ⟨n, by simp, Nat.zero_le _, h0⟩, ?_⟩
  rintro i m Hi ⟨rfl, hi, p⟩
  by_cases q : i < n
  · exact .inr (hs i Hi q p)
  · have e : i = n := by omega
    subst e
    exact .inl (hd Hi p)
end L2
namespace L2
open PySem
theorem Same.sqT {K : PySem.W.Frag} {H H' : Hp} {a : Addr} {xs : List V} (e : Same H H') (h : SqT K H a xs) : SqT K H' a xs := by
  rcases h with (h | ⟨o, h⟩) | h
  · exact .inl (.inl (e _ _ h))
  · exact .inl (.inr ⟨o, e _ _ h⟩)
  · exact .inr h
end L2
namespace L2
theorem yes_go {σ : St} {H : Hp} {A B : Hp → Prop} (h : A H) : tYes σ H (fun b H3 => if b = true then A H3 else B H3) := iteT (A := A H) (B := B H) h
end L2

namespace Rvt
open PySem PyProof.Rows
theorem slot_init : Slot "reversed" "__init__" "object.__init__" :=
  .of (owner := "object") (n := "__init__") (by rw [typeLookup_type, builtinLookup_eq_fast]; kernel_rfl) (by decide +kernel) (by decide +kernel) (by decide +kernel) (by first | exact .inl (by decide +kernel) | exact .inr (by decide +kernel)) (by rw [isSubtype_type]; kernel_rfl)
theorem slot_next : Slot "reversed" "__next__" "reversed.__next__" :=
  .of (owner := "reversed") (n := "__next__") (by rw [typeLookup_type, builtinLookup_eq_fast]; kernel_rfl) (by decide +kernel) (by decide +kernel) (by decide +kernel) (by first | exact .inl (by decide +kernel) | exact .inr (by decide +kernel)) (by rw [isSubtype_type]; kernel_rfl)
theorem slot_iter : Slot "reversed" "__iter__" "reversed.__iter__" :=
  .of (owner := "reversed") (n := "__iter__") (by rw [typeLookup_type, builtinLookup_eq_fast]; kernel_rfl) (by decide +kernel) (by decide +kernel) (by decide +kernel) (by first | exact .inl (by decide +kernel) | exact .inr (by decide +kernel)) (by rw [isSubtype_type]; kernel_rfl)
theorem slot_hint : Slot "reversed" "__length_hint__" "reversed.__length_hint__" :=
  .of (owner := "reversed") (n := "__length_hint__") (by rw [typeLookup_type, builtinLookup_eq_fast]; kernel_rfl) (by decide +kernel) (by decide +kernel) (by decide +kernel) (by first | exact .inl (by decide +kernel) | exact .inr (by decide +kernel)) (by rw [isSubtype_type]; kernel_rfl)
theorem entry_next : entryFor table "reversed.__next__" = some Builtin.«reversed.__next__» := entryFor_of_tree (by kernel_rfl)
theorem entry_hint : entryFor table "reversed.__length_hint__" = some Builtin.«reversed.__length_hint__» := entryFor_of_tree (by kernel_rfl)
theorem entry_iter : entryFor table "reversed.__iter__" = some Builtin.«dict_keyiterator.__iter__» :=
  entryFor_alias (id' := "dict_keyiterator.__iter__") (by kernel_rfl) (by first | rfl | decide +kernel | (unfold String.splitOn; simp +decide [String.splitOnAux])) (by decide +kernel) (by kernel_rfl)
theorem args_next (a : Value) : argsOk "reversed.__next__" ⟨[a], []⟩ := by unfold argsOk; kernel_rfl
theorem args_hint (a : Value) : argsOk "reversed.__length_hint__" ⟨[a], []⟩ := by unfold argsOk; kernel_rfl
theorem args_iter (a : Value) : argsOk "reversed.__iter__" ⟨[a], []⟩ := by unfold argsOk; kernel_rfl
theorem called : TypeCalled "reversed" "reversed.__new__" "object.__init__" :=
  ⟨by decide +kernel, F.create_reversed, ⟨_, _, F.mro_reversed⟩, F.made_reversed, F.plain_reversed_new, F.sub_reversed_self, slot_init⟩
theorem no_rev : typeLookup (.type "tuple") "__reversed__" = pure none := by rw [typeLookup_type, builtinLookup_eq_fast]; kernel_rfl
theorem nolen : typeLookup (.type "reversed") "__len__" = pure none := by rw [typeLookup_type, builtinLookup_eq_fast]; kernel_rfl
theorem sub_dict : isSubtype (.type "tuple") (.type "dict") = pure false := by rw [isSubtype_type]; kernel_rfl
noncomputable def rvObj (l : Addr) (i : Int) : Obj := { cls := .type "reversed", data := .fields #[.ref l, rawInt i] }
noncomputable def IsRv (h : Heap) (a l : Addr) (i : Int) : Prop := ∃ o, h.get? a = some o ∧ o.cls = .type "reversed" ∧ o.data = .fields #[.ref l, rawInt i]
theorem IsRv.ty {s : Shared} {a l : Addr} {i : Int} (x : IsRv s.heap a l i) : s.TypeIs (.ref a) "reversed" := let ⟨o, ho, hc, _⟩ := x; ⟨o, ho, hc⟩
end Rvt

namespace Rvt
open PySem PyProof.Rows
section
variable {prog : Program} {w : World} {A : Around} {E : Value → Shared → Prop} {s : Shared}
theorem new_code {t : Addr} {its : Array Value} {Q : Value → Shared → Prop} (hl : s.heap.IsTuple t its) (hz : its.size ≤ sizeLine)
    (h : ∀ tk, s.toks ≤ tk → Q (.ref s.heap.objs.size) { s with heap := s.heap.push (rvObj t ((its.size : Int) - 1)), toks := tk }) :
    codeAny (model prog w) A (.call (.builtin "reversed.__new__") ⟨[.type "reversed", .ref t], []⟩) (wants Q E) s := by
  refine codeAny_of_tree ?_
  show wpAny (model prog w) A.in1 (do checkBuiltinCall "reversed.__new__" ⟨[.type "reversed", .ref t], []⟩; again (.builtin "reversed.__new__" ⟨[.type "reversed", .ref t], []⟩)) _ _ s
  refine wpAny_bind (wpAny_of_eq (F.newCall_reversed_1 _) (wpAny_pure ⟨plainId_quiet F.plain_reversed_new _, codeAny_builtin F.entry_reversed_new ?_⟩))
  rw [Around.under_plainId F.plain_reversed_new _]
  unfold Builtin.«reversed.__new__»
  refine wpAny_bind (wpAny_of_eq (newClass_reversed _) ?_)
  try dsimp only
  refine wpAny_bind (wpAny_of_eq (a := ()) (by first | rfl | kernel_rfl) ?_)
  refine wpAny_bind (wpAny_of_eq (a := ()) (by first | rfl | kernel_rfl) ?_)
  try dsimp only
  refine wpAny_bind (wpAny_specialOf hl.typeIs no_rev ?_)
  try dsimp only
  have hT := hl.typeIs
  have f1 := sub_dict
  have f2 := F.slot_tuple_getitem.lookup
  refine wpAny_bind ?_
  k_delta "hasItemSlot"
  refine wpAny_bind (wpAny_isInstance hT f1 ?_)
  rw [if_neg (by decide)]
  refine wpAny_bind (wpAny_specialOf hT f2 ?_)
  try dsimp only
  rw [if_pos (by decide)]
  refine wpAny_pure ?_
  rw [if_neg (by decide)]
  refine wpAny_bind (len_tuple (show IsTup s.heap t its from hl) (by have : its.size < 2 ^ 62 := Nat.lt_of_le_of_lt hz (by decide); omega) ?_)
  refine wpAny_bind (wpAny_pure ?_)
  try dsimp only
  unfold Builtin.SmallTypes.newRecord
  refine wpAny_bind (wpAny_newObj_type ?_)
  exact wpAny_pure (h _ (by show s.toks ≤ s.toks + 1 + 1; omega))
theorem call_rev {t : Addr} {its : Array Value} {Q : Value → Shared → Prop} (hl : s.heap.IsTuple t its) (hz : its.size ≤ sizeLine)
    (h : ∀ tk, s.toks ≤ tk → Q (.ref s.heap.objs.size) { s with heap := s.heap.push (rvObj t ((its.size : Int) - 1)), toks := tk }) : wpAny (model prog w) A (call (.type "reversed") [.ref t]) Q E s := by
  refine callType_codes (Q₁ := fun v s1 => s1.TypeIs v "reversed" ∧ Q v s1) called (F.typeCall_reversed_1 _) F.entry_object_init (new_code hl hz fun tk htk => ⟨⟨_, Heap.get?_push_size _ rfl, rfl⟩, h tk htk⟩) fun v s1 h1 => ?_
  exact ⟨h1.1, F.args_object_init_2 v _, object_init_meets called.init.lookup called.made (by decide) prog w A.in1 _ s1 ⟨h1.1, rfl, h1.2⟩⟩
theorem next_item {it t : Addr} {i : Nat} {its : Array Value} {x : Value} {Q : Option Value → Shared → Prop} (hit : IsRv s.heap it t (i : Int)) (hl : IsTup s.heap t its) (hx : its[i]? = some x) (hz : its.size ≤ sizeLine)
    (hQ : ∀ h2 tk, s.toks ≤ tk → IsRv h2 it t ((i : Int) - 1) → Heap.SameBut it s.heap h2 → Q (some x) { s with heap := h2, toks := tk }) : wpAny (model prog w) A (pyNext (.ref it)) Q E s := by
  obtain ⟨o, ho, hc, hd⟩ := id hit
  have hsz : i < its.size := (Array.getElem?_eq_some_iff.mp hx).1
  have hzz : its.size < 2 ^ 62 := Nat.lt_of_le_of_lt hz (by decide)
  unfold pyNext
  refine wpAny_bind (wpAny_attempt (wpAny_callSpecial?_slot (name := Str.ofString "__next__") hit.ty slot_next (wpAny_call_entry slot_next hit.ty entry_next ?_ (args_next _))))
  unfold Builtin.«reversed.__next__»
  refine wpAny_bind (wpAny_of_eq (a := (Value.ref it, [])) rfl ?_)
  try dsimp only
  refine wpAny_bind (wpAny_field ho hd (x := .ref t) rfl ?_)
  refine wpAny_bind (wpAny_field ho hd (x := rawInt (i : Int)) rfl ?_)
  show wpAny (model prog w) _ (if (i : Int) < 0 then _ else _) _ _ s
  rw [if_neg (by omega)]
  refine wpAny_bind (wpAny_specialOf hl.typeIs F.slot_tuple_getitem.lookup ?_)
  try dsimp only
  rw [if_neg (by decide)]
  refine wpAny_bind (wpAny_mkInt ?_)
  refine wpAny_bind (wpAny_attempt (getItem_tuple (s := { s with toks := s.toks + 1 }) hl (by omega) (by omega) (j := i) (by unfold seqIndex?; simp; omega) hx ?_))
  try dsimp only
  refine wpAny_bind (wpAny_field ho hd (x := rawInt (i : Int)) rfl ?_)
  show wpAny (model prog w) _ (setField (.ref it) 1 (rawInt ((i : Int) - 1)) >>= _) _ _ _
  refine wpAny_bind (wpAny_setField ho hd (by simp) (wpAny_pure ⟨x, rfl, wpAny_pure (hQ _ _ (by show s.toks ≤ s.toks + 1; omega) ?_ (Heap.SameBut.update ..))⟩))
  exact ⟨_, Heap.get?_update_self _ ho (Obj.isFreed_of_fields (Obj.data_mapFields hd _)), (Obj.cls_mapFields ..).trans hc, by rw [Obj.data_mapFields hd]; simp⟩
theorem next_end {it t : Addr} {Q : Option Value → Shared → Prop} (hh : A.handled = none) (hit : IsRv s.heap it t (-1)) (hQ : ∀ h2, Heap.ExtBut it s.heap h2 → Q none { s with heap := h2 }) : wpAny (model prog w) A (pyNext (.ref it)) Q E s := by
  obtain ⟨o, ho, hc, hd⟩ := id hit
  unfold pyNext
  refine wpAny_bind (wpAny_attempt (wpAny_callSpecial?_slot (name := Str.ofString "__next__") hit.ty slot_next (wpAny_call_entry slot_next hit.ty entry_next ?_ (args_next _))))
  unfold Builtin.«reversed.__next__»
  refine wpAny_bind (wpAny_of_eq (a := (Value.ref it, [])) rfl ?_)
  try dsimp only
  refine wpAny_bind (wpAny_field ho hd (x := .ref t) rfl ?_)
  refine wpAny_bind (wpAny_field ho hd (x := rawInt (-1)) rfl ?_)
  show wpAny (model prog w) _ (if (-1 : Int) < 0 then _ else _) _ _ s
  rw [if_pos (by decide)]
  refine wpAny_bind (wpAny_rule ?_)
  refine wpAny_bind ?_
  k_delta "reversedEnd"
  refine wpAny_bind (wpAny_setField ho hd (by simp) ?_)
  have hd2 := Obj.data_mapFields hd (·.setIfInBounds 1 (rawInt (-1)))
  have ho2 := Heap.get?_update_self (Obj.mapFields (·.setIfInBounds 1 (rawInt (-1)))) ho (Obj.isFreed_of_fields hd2)
  refine wpAny_setField ho2 hd2 (by simp) ?_
  refine wpAny_bind ?_
  unfold Builtin.SmallTypes.stopIteration
  first
  | show wpAny _ _ (newExc (.type "StopIteration") [] >>= _) _ _ _
  | skip
  refine wpAny_bind ?_
  simp only [newExc, newTuple]
  refine wpAny_bind (wpAny_newObj_type ?_ (by size_fits))
  refine wpAny_bind (m := firstArgMember _ _) (wpAny_of_eq (a := Value.none) (by first | rfl | (simp only [firstArgMember]; rfl)) ?_)
  refine wpAny_newObj_type ?_ (by size_fits)
  simp only [raiseNew]
  refine wpAny_bind (wpAny_handled ?_)
  first | rw [show A.in1.handled = none from hh] | rw [hh]
  refine wpAny_bind (wpAny_pure (wpAny_throw ?_))
  refine wpAny_bind (wpAny_isInstance (T := "StopIteration") (b := true) ⟨_, Heap.get?_push_size _ rfl, rfl⟩ isSubtype_stop ?_)
  refine wpAny_pure (hQ _ ((Heap.ExtBut.push ?_ _).push _))
  intro b o' hb e
  exact (Heap.get?_update_other _ _ (Ne.symm hb)).trans ((Heap.get?_update_other _ _ (Ne.symm hb)).trans e)
theorem self_iter {it t : Addr} {i : Int} {Q : Value → Shared → Prop} (hit : IsRv s.heap it t i) (h : Q (.ref it) s) : wpAny (model prog w) A (pyIter (.ref it)) Q E s := by
  refine wpAny_pyIter_slot hit.ty slot_iter (wpAny_call_entry slot_iter hit.ty entry_iter ?_ (args_iter _))
  show wpAny (model prog w) _ (ret (.ref it)) _ _ s
  exact wpAny_pure ⟨_, rfl, "reversed", _, hit.ty, slot_next.lookup, h⟩
end
theorem walks {prog : Program} {w : World} {A : Around} (hh : A.handled = none) (D t : Addr) (hne : t ≠ D) (its : Array Value) (hz : its.size ≤ sizeLine) :
    Walks prog w A D [D, t] [D] its.size (fun i v => its[its.size - 1 - i]? = some v) (fun i h => i ≤ its.size ∧ IsRv h D t ((its.size : Int) - 1 - (i : Int)) ∧ h.IsTuple t its) where
  sub := fun b hb => by simp at hb; simp [hb]
  frame := fun _ _ _ x hk => ⟨x.1, (let ⟨o, ho, r⟩ := x.2.1; ⟨o, hk D (by simp) o ho, r⟩), (let ⟨o, ho, r⟩ := x.2.2; ⟨o, hk t (by simp) o ho, r⟩)⟩
  item := fun i s Q E hi x hQ => by
    have e : (its.size : Int) - 1 - (i : Int) = ((its.size - 1 - i : Nat) : Int) := by omega
    have hit := x.2.1
    rw [e] at hit
    have hx : its[its.size - 1 - i]? = some (its[its.size - 1 - i]'(by omega)) := Array.getElem?_eq_getElem (by omega)
    refine next_item hit (show IsTup s.heap t its from x.2.2) hx hz fun h2 tk htk hit2 hs2 => ?_
    have e2 : ((its.size - 1 - i : Nat) : Int) - 1 = (its.size : Int) - 1 - ((i + 1 : Nat) : Int) := by omega
    rw [e2] at hit2
    exact hQ _ h2 tk hx ⟨hi, hit2, (let ⟨o, ho, r⟩ := x.2.2; ⟨o, (hs2.2 t hne).trans ho, r⟩)⟩ fun b o hb eo => hs2.extBut b o (fun h => hb (by simp [h])) eo
  done := fun s Q E x hQ => by
    have e : (its.size : Int) - 1 - (its.size : Int) = -1 := by omega
    have hit := x.2.1
    rw [e] at hit
    exact next_end hh hit fun h2 he2 => hQ h2 s.toks fun b o hb eo => he2 b o (fun h => hb (by simp [h])) eo
  self := fun _ _ _ _ x hQ => self_iter x.2.1 hQ
end Rvt

namespace Rvt
open PySem PyProof.Rows
section
variable {prog : Program} {w : World} {A : Around} {E : Value → Shared → Prop} {s : Shared}
theorem hint {D t : Addr} {its : Array Value} {Q : Value → Shared → Prop} (hit : IsRv s.heap D t ((its.size : Int) - 1)) (hl : IsTup s.heap t its) (hz : its.size ≤ sizeLine) (h : ∀ tk u, s.toks ≤ tk → Q (.int its.size u) { s with toks := tk }) :
    wpAny (model prog w) A (call (.builtin "reversed.__length_hint__") [.ref D]) Q E s := by
  obtain ⟨o, ho, hc, hd⟩ := id hit
  have hzz : its.size < 2 ^ 62 := Nat.lt_of_le_of_lt hz (by decide)
  refine wpAny_call_entry slot_hint hit.ty entry_hint ?_ (args_hint _)
  unfold Builtin.«reversed.__length_hint__»
  refine wpAny_bind (wpAny_of_eq (a := Value.ref D) rfl ?_)
  refine wpAny_bind (wpAny_field ho hd (x := .ref t) rfl ?_)
  rw [if_neg (show ¬ ((Value.ref t == Value.none) = true) from Bool.false_ne_true)]
  refine wpAny_bind (len_tuple hl (by omega) ?_)
  refine wpAny_bind (wpAny_pure ?_)
  try dsimp only
  refine wpAny_bind (wpAny_field ho hd (x := rawInt ((its.size : Int) - 1)) rfl ?_)
  show wpAny (model prog w) _ (if ((its.size : Nat) : Int) < ((its.size : Int) - 1) + 1 then _ else _) _ _ _
  rw [if_neg (by omega)]
  unfold retInt
  rw [show ((its.size : Int) - 1) + 1 = (its.size : Int) by omega]
  exact wpAny_bind (wpAny_mkInt (wpAny_pure ⟨_, rfl, h _ _ (by show s.toks ≤ s.toks + 1 + 1 + 1; omega)⟩))
variable {D : Addr} {fp wr : List Addr} {G : Array GenState → Array GenState → Prop} {n : Nat} {P : Nat → Value → Prop} {St : Nat → Shared → Prop}
theorem collect_rv {Q : List Value → Shared → Prop} (W : WalksS prog w A.in1 D fp wr G n P St) (hT : ∀ i s, St i s → s.TypeIs (.ref D) "reversed") (hst : St 0 s) (hfp : ∀ b ∈ fp, b < s.heap.objs.size) (hD : D ∈ fp)
    (hhint : ∀ (s1 : Shared) (Q' : Value → Shared → Prop) (E' : Value → Shared → Prop), St 0 s1 → (∀ tk u, s1.toks ≤ tk → Q' (.int n u) { s1 with toks := tk }) → wpAny (model prog w) A.in1 (call (.builtin "reversed.__length_hint__") [.ref D]) Q' E' s1)
    (hQ : ∀ s' acc, Moved wr G s s' → ItemsOf P acc n → Q acc.toList s') (hn : n ≤ sizeLine) : wpAny (model prog w) A (collect (.ref D)) Q E s := by
  have k1 : s.heap.objs.size ∉ fp := fun hm => Nat.lt_irrefl _ (hfp _ hm)
  have k2 : s.heap.objs.size ≠ D := fun e => k1 (e ▸ hD)
  have hzz : n < 2 ^ 62 := Nat.lt_of_le_of_lt hn (by decide)
  unfold collect
  refine wpAny_bind (wpAny_runValue (codeAny_builtin F.entry_proto_collect ?_))
  rw [Around.under_plainId F.plain_proto_collect _]
  show wpAny (model prog w) A.in1 (newList [] >>= fun l => again (.builtin "list.__iadd__" ⟨[l, .ref D], []⟩)) _ _ s
  refine wpAny_bind (wpAny_newObj_type ?_)
  refine wpAny_pure ⟨plainId_quiet F.plain_list_iadd _, codeAny_builtin F.entry_list_iadd ?_⟩
  rw [Around.under_plainId F.plain_list_iadd _]
  have st1 := W.frame 0 s (s.heap.push { cls := .type "list", data := .seq ([] : List Value).toArray }) s.toks hst (Nat.le_refl _) fun b _ o e => Heap.get?_push_of_some _ e
  have k3 : (s.heap.push { cls := .type "list", data := .seq ([] : List Value).toArray }).get? s.heap.objs.size = some { cls := .type "list", data := .seq ([] : List Value).toArray } := Heap.get?_push_size _ rfl
  have k4 : Builtin.List.listSameRef (.ref s.heap.objs.size) (.ref D) = false := by simp [Builtin.List.listSameRef, k2]
  show wpAny (model prog w) A.in1 (Builtin.List.listExtendWith (.ref s.heap.objs.size) (.ref D) (.ref s.heap.objs.size)) _ _ _
  unfold Builtin.List.listExtendWith
  refine wpAny_bind (wpAny_typeOf (hT 0 _ st1) ?_)
  rw [if_neg (by rw [k4]; decide)]
  refine wpAny_bind (W.self 0 _ _ _ st1 ?_)
  refine wpAny_bind (wpAny_holding ?_)
  unfold Builtin.List.listLengthHint
  refine wpAny_bind (wpAny_specialOf (hT 0 _ st1) nolen ?_)
  show wpAny (model prog w) A.in1 (specialOf (Value.ref D) (Str.ofString "__length_hint__") >>= _) _ _ _
  refine wpAny_bind (wpAny_specialOf (hT 0 _ st1) slot_hint.lookup ?_)
  generalize hid : ("reversed.__length_hint__" : String) = nm
  wp_delta
  rw [show splitId nm = some ("reversed", "__length_hint__") from by subst hid; decide +kernel]
  subst hid
  refine wpAny_bind (wpAny_isInstance (b := true) (hT 0 _ st1) (by rw [isSubtype_type]; kernel_rfl) ?_)
  rw [if_neg (by decide)]
  rw [if_neg (by decide +kernel)]
  refine wpAny_bind (wpAny_rule ?_)
  refine wpAny_bind (wpAny_of_eq (slot_hint.bind (.ref D)) ?_)
  refine wpAny_bind (wpAny_attempt (hhint _ _ _ st1 fun tk u htk => ?_))
  try dsimp only
  have ea : asInt? (Value.int (n : Int) u) = (pure (some (n : Int)) : Sem (Option Int)) := rfl
  rw [ea, pure_bind]
  try dsimp only
  have f1 : Builtin.List.listFitsIndex (n : Int) = true := by unfold Builtin.List.listFitsIndex; simp; omega
  have f2 : Builtin.List.listTooLong ((n : Int).toNat) = false := by unfold Builtin.List.listTooLong; simp; omega
  rw [if_neg (by rw [f1]; decide), if_neg (by omega), if_neg (by rw [f2]; decide)]
  refine wpAny_pure ?_
  have st2 := W.frame 0 _ _ tk st1 htk fun b _ o e => e
  have loop : ∀ (h5 : Heap) (c5 : Nat), h5.get? s.heap.objs.size = some { cls := .type "list", data := .seq ([] : List Value).toArray c5 } → (∀ b o, b ≠ s.heap.objs.size → (s.heap.push { cls := .type "list", data := .seq ([] : List Value).toArray }).get? b = some o → h5.get? b = some o) →
      codeAny (model prog w) A (.builtin "list.extend.loop" ⟨[.ref s.heap.objs.size, .ref D, .ref s.heap.objs.size], []⟩) (fun r s' =>
        match r with
        | Except.ok (Flow.ret v) => wpAny (model prog w) A (match v with
            | Value.ref a => do
              let __do_lift ← load a
              match __do_lift.data with
                | Data.seq xs epoch => pure xs.toList
                | x => unsupported "internal:collect"
            | x => unsupported "internal:collect") Q E s'
        | Except.ok a => False
        | Except.error e => E e s') { s with heap := h5, toks := tk } := by
    intro h5 c5 e5 k5
    have st3 := W.frame 0 _ h5 tk st2 (Nat.le_refl _) fun b hb o e => k5 b o (fun z => k1 (z ▸ hb)) e
    refine codeAny_extend_loopS W hn _ k1 _ n 0 _ _ _ rfl (Nat.zero_le _) st3 e5 (ItemsOf.nil P) fun s' acc' c' hm hS' hacc => ?_
    show wpAny (model prog w) A (load s.heap.objs.size >>= _) _ _ s'
    refine wpAny_bind (wpAny_load hS' ?_)
    refine wpAny_pure (hQ s' acc' (Moved.drop_new (o := { cls := .type "list", data := .seq ([] : List Value).toArray }) (tk := tk) (Moved.trans W.gtrans ((Moved.refl W.grefl).then_heap (Nat.le_refl _) fun b o hb e => ?_) hm) htk) hacc)
    exact k5 b o (fun h => hb (h ▸ List.mem_cons_self)) e
  by_cases z : n = 0
  · rw [if_neg (by subst z; decide +kernel)]
    exact wpAny_pure ⟨plainId_quiet F.plain_extend_loop _, loop _ _ k3 fun b o _ e => e⟩
  · rw [if_pos (by have : ((n : Int) != 0) = true := by simp; omega
                   rw [this]; rfl)]
    refine wpAny_bind (wpAny_rule ?_)
    refine wpAny_bind ?_
    show wpAny (model prog w) A.in1 (updateSeq s.heap.objs.size (·.push .none) >>= fun _ => updateSeq s.heap.objs.size (·.pop)) _ _ _
    refine wpAny_bind (wpAny_updateSeq k3 rfl ?_)
    have k6 := Heap.get?_update_self (Obj.mapSeq (·.push Value.none)) k3 rfl
    refine wpAny_updateSeq k6 rfl ?_
    have k7 := Heap.get?_update_self (Obj.mapSeq (·.pop)) k6 rfl
    exact wpAny_pure ⟨plainId_quiet F.plain_extend_loop _, loop _ _ k7 fun b o hb e => (Heap.get?_update_other _ _ (Ne.symm hb)).trans ((Heap.get?_update_other _ _ (Ne.symm hb)).trans e)⟩
end
end Rvt

namespace Rvt
open PySem PyProof.Rows
section
variable {prog : Program} {w : World} {A : Around} {E : Value → Shared → Prop} {s : Shared} {D : Addr} {fp wr : List Addr} {G : Array GenState → Array GenState → Prop} {n : Nat} {P : Nat → Value → Prop} {St : Nat → Shared → Prop}
theorem tup_code {Q : Value → Shared → Prop} (W : WalksS prog w A.in1.in1 D fp wr G n P St) (hT : ∀ i s, St i s → s.TypeIs (.ref D) "reversed") (hst : St 0 s) (hfp : ∀ b ∈ fp, b < s.heap.objs.size) (hD : D ∈ fp)
    (hhint : ∀ (s1 : Shared) (Q' : Value → Shared → Prop) (E' : Value → Shared → Prop), St 0 s1 → (∀ tk u, s1.toks ≤ tk → Q' (.int n u) { s1 with toks := tk }) → wpAny (model prog w) A.in1.in1 (call (.builtin "reversed.__length_hint__") [.ref D]) Q' E' s1)
    (h : ∀ s' acc, Moved wr G s s' → ItemsOf P acc n → Q (.ref s'.heap.objs.size) { s' with heap := s'.heap.push { cls := .type "tuple", data := .seq acc } }) (hn : n ≤ sizeLine) :
    codeAny (model prog w) A (.call (.builtin "tuple.__new__") ⟨[.type "tuple", .ref D], []⟩) (wants Q E) s := by
  refine codeAny_of_tree ?_
  show wpAny (model prog w) A.in1 (do checkBuiltinCall "tuple.__new__" ⟨[.type "tuple", .ref D], []⟩; again (.builtin "tuple.__new__" ⟨[.type "tuple", .ref D], []⟩)) _ _ s
  refine wpAny_bind (wpAny_of_eq (F.newCall_tuple_1 _) (wpAny_pure ⟨plainId_quiet F.plain_tuple_new _, codeAny_builtin F.entry_tuple_new ?_⟩))
  rw [Around.under_plainId F.plain_tuple_new _]
  have j1 := sub_tuple_self
  have j2 := init_tuple_lookup
  have j3 := madeHere_tuple
  have j4 := hT 0 s hst
  wp_walk using wpAny_typeOf j4, collect_rv W hT hst hfp hD hhint
  rotate_left
  · exact hn
  intro s' acc hm hacc
  show wpAny (model prog w) _ (Builtin.Tuple.tupleExact acc.toList.toArray >>= fun v => ret v) _ _ _
  unfold Builtin.Tuple.tupleExact
  refine wpAny_bind (wpAny_newObj_type ?_ (by show acc.toList.toArray.size ≤ sizeLine; simp only [Array.toArray_toList]; rw [hacc.1]; exact hn))
  refine wpAny_pure ?_
  have e : acc.toList.toArray = acc := by simp
  rw [e]
  exact h s' acc hm hacc
theorem tup_of {Q : Value → Shared → Prop} (W : WalksS prog w A.in1.in1.in1 D fp wr G n P St) (hT : ∀ i s, St i s → s.TypeIs (.ref D) "reversed") (hst : St 0 s) (hfp : ∀ b ∈ fp, b < s.heap.objs.size) (hD : D ∈ fp)
    (hhint : ∀ (s1 : Shared) (Q' : Value → Shared → Prop) (E' : Value → Shared → Prop), St 0 s1 → (∀ tk u, s1.toks ≤ tk → Q' (.int n u) { s1 with toks := tk }) → wpAny (model prog w) A.in1.in1.in1 (call (.builtin "reversed.__length_hint__") [.ref D]) Q' E' s1)
    (hQ : ∀ s' acc, Moved wr G s s' → ItemsOf P acc n → Q (.ref s'.heap.objs.size) { s' with heap := s'.heap.push { cls := .type "tuple", data := .seq acc } }) (hn : n ≤ sizeLine) :
    wpAny (model prog w) A (call (.type "tuple") [.ref D]) Q E s := by
  refine callType_codes (Q₁ := fun v s1 => s1.TypeIs v "tuple" ∧ Q v s1) F.called_tuple (F.typeCall_tuple_1 _) F.entry_object_init (tup_code W hT hst hfp hD hhint (fun s' acc hm hacc => ⟨⟨_, Heap.get?_push_size _ rfl, rfl⟩, hQ s' acc hm hacc⟩) hn) fun v s1 h1 => ?_
  exact ⟨h1.1, F.args_object_init_2 v _, object_init_meets F.called_tuple.init.lookup F.called_tuple.made (by decide) prog w A.in1 _ s1 ⟨h1.1, rfl, h1.2⟩⟩
end
end Rvt

namespace L2
open PySem PySem.Spec PyProof.Rows
section
variable {X : Cx} {e : Expr} {te : TE} {p q pos pos2 : Pos}
noncomputable def tTRT (K : PySem.W.Frag) (te : TE) : TE := fun σ H Q => te σ H fun x H1 => ∃ a ys, x = .ref a ∧ SqT K H1 a ys ∧ ∀ t, H1 t = none → Q (.ref t) (upd H1 t (.tup ys.reverse))
theorem pe_tupRevT (hc : X.calm = true) (hg : Gl X "tuple") (hm : X.mg "tuple" = none) (hg2 : Gl X "reversed") (hm2 : X.mg "reversed" = none) (he : PE X e te)
    (h1 : starEach [.Call (.Name "reversed" q) [e] [] pos2] X.env = [(false, eval (.Call (.Name "reversed" q) [e] [] pos2) X.env)] := by rfl) (h2 : starEach [e] X.env = [(false, eval e X.env)] := by rfl) :
    PE X (.Call (.Name "tuple" p) [.Call (.Name "reversed" q) [e] [] pos2] [] pos) (tTRT X.K te) := by
  intro pins s σ H Q I h
  refine Call_name1 h1 (ld_blt I hg hm PyProof.Rows.boot_tuple (PySem.callWith_type1 ?_))
  refine Call_name1 h2 (ld_blt I hg2 hm2 PyProof.Rows.boot_reversed (PySem.callWith_type1 ?_))
  refine thn (he pins s σ H _ I h) fun v s1 ⟨x, H1, I1, r1, q1⟩ => ?_
  obtain ⟨a, ys, rfl, hq, k⟩ := q1
  cases r1
  obtain ⟨its, rv, pl, hz⟩ := I1.tuple hq
  have hz2 : its.length ≤ sizeLine := by rw [← rv.length]; exact hz
  have hza : its.toArray.size ≤ sizeLine := by simpa using hz2
  have pt : s1.heap.IsTuple a its.toArray := pl
  refine Rvt.call_rev pt hza fun tk0 htk0 => ?_
  have hal : a < s1.heap.objs.size := by obtain ⟨o, e1, _⟩ := pt; exact Heap.lt_size e1
  have W := (Rvt.walks (prog := X.prog) (w := X.w) (A := X.A.in1.in1.in1) (I1.ok.hd hc) s1.heap.objs.size a (Nat.ne_of_lt hal) its.toArray hza).toS
  refine Rvt.tup_of W (fun i s' st => st.2.1.ty) ⟨Nat.zero_le _, ?_, pt.push _⟩ (fun b hb => ?_) (by simp) (fun s2 Q' E' st hq' => ?_) (fun s' acc hm hacc => ?_) hza
  · have : ((its.toArray.size : Nat) : Int) - 1 - ((0 : Nat) : Int) = (its.toArray.size : Int) - 1 := by omega
    rw [this]
    exact ⟨_, Heap.get?_push_size _ rfl, rfl, rfl⟩
  · show b < (s1.heap.push _).objs.size
    rw [Heap.size_push]
    rcases List.mem_cons.mp hb with rfl | hb
    · exact Nat.lt_succ_self _
    · rw [List.mem_singleton.mp hb]; exact Nat.lt_succ_of_lt hal
  · have st' := st.2.1
    rw [show ((its.toArray.size : Nat) : Int) - 1 - ((0 : Nat) : Int) = (its.toArray.size : Int) - 1 by omega] at st'
    exact Rvt.hint st' (show IsTup s2.heap a its.toArray from st.2.2) hza hq'
  · have hacc2 : acc = its.reverse.toArray := by
      refine Array.ext (by simp [hacc.1]) fun i hi hi2 => ?_
      have := hacc.2 i acc[i] (by simp [hi])
      have hl : i < its.length := by simpa using hi2
      have e1 : its[its.length - 1 - i]? = some acc[i] := by simpa using this
      have e2 : its.reverse.toArray[i] = its[its.length - 1 - i]'(by omega) := by simp
      rw [List.getElem?_eq_getElem (by omega)] at e1
      rw [e2]
      exact (Option.some.inj e1).symm
    obtain ⟨hh, gg, dd, tt, oo⟩ := s'
    have g1 : gg = s1.gens := hm.gens
    have g2 : dd = s1.drawn := hm.drawn
    have g3 : oo = s1.os := hm.os
    subst g1 g2 g3 hacc2
    have k0 : ∀ b o, s1.heap.get? b = some o → hh.get? b = some o := fun b o e1 => hm.heap b o (by simp only [List.mem_singleton]; exact Nat.ne_of_lt (Heap.lt_size e1)) (Heap.get?_push_of_some _ e1)
    have J : Inv X pins σ H1 { s1 with heap := hh, toks := tt } := I1.kept k0
    have J2 : Inv X pins σ (upd H1 hh.objs.size (.tup ys.reverse)) { s1 with heap := hh.push { cls := .type "tuple", data := .seq its.reverse.toArray }, toks := tt } :=
      Inv.laid (s := { s1 with heap := hh, toks := tt }) J (fun b o e1 => Heap.get?_push_of_some _ e1) (Nat.le_refl _) ⟨by rw [List.length_reverse]; exact hz, its.reverse, vals_rev rv, _, Heap.get?_push_size _ rfl, rfl, _, rfl⟩
    exact ⟨.ref hh.objs.size, _, J2, rfl, k _ (J.hok.fresh (Nat.le_refl _))⟩
end
end L2

namespace HT
open PySem PyProof.Rows PySem.AutoSeq1
theorem add_none (l b : Addr) (items items2 : Array Value) (n n2 : Nat) (dd dd2 : Option Addr) (sl sl2 : Array (Option Value)) (hc0 : items.isEmpty = true) :
    Meets (Builtin.«tuple.__add__» ⟨[.ref l, .ref b], []⟩) (fun _ R s => s.heap.get? l = some { cls := .type "tuple", dict := dd, data := .seq items n, slots := sl } ∧ s.heap.get? b = some { cls := .type "tuple", dict := dd2, data := .seq items2 n2, slots := sl2 } ∧ R (.ok (.ret (.ref b))) s) :=
  .of_wp fun prog w A R s h => by
    obtain ⟨hp, g, d, tk, os⟩ := s; obtain ⟨hl, hb, h⟩ := h
    have f2 := PyProof.Rows.sub_tuple_tuple
    wp_walk using wpAny_loadPart' hl, wpAny_loadPart' hb
    exact ⟨_, rfl, h⟩
section
variable {prog : Program} {w : World} {A : Around} {E : Value → Shared → Prop} {s : Shared}
theorem cat_none {t b : Addr} {ws : List Value} {Q : Value → Shared → Prop} (ht : IsTup s.heap t #[]) (hb : IsTup s.heap b ws.toArray) (h : Q (.ref b) s) : wpAny (model prog w) A (binaryOp .Add (.ref t) (.ref b)) Q E s := by
  obtain ⟨⟨cls, dd, data, sl⟩, ho, hc, n, hd⟩ := id ht
  obtain ⟨⟨cls2, dd2, data2, sl2⟩, ho2, hc2, n2, hd2⟩ := id hb
  simp only at hc hd hc2 hd2
  subst hc hd hc2 hd2
  exact concat_meets ⟨_, ho, rfl⟩ ⟨_, ho2, rfl⟩ noFill_tuple_add seq_tuple_add PySem.F.slot_tuple_add PySem.F.entry_tuple_add (PySem.F.args_tuple_add_2 _ _)
      (add_none t b #[] ws.toArray n n2 dd dd2 sl sl2 rfl) ⟨ho, ho2, h⟩
end
end HT
namespace L2
open PySem PySem.Spec PyProof.Rows
section
variable {X : Cx}
noncomputable def rCatA (K : PySem.W.Frag) : R2 := fun x y H Q => ∃ a b xs ys, x = .ref a ∧ y = .ref b ∧ SqT K H a xs ∧ SqT K H b ys ∧ xs.length + ys.length ≤ sizeLine ∧ (xs = [] → Q (.ref b) H) ∧ (xs ≠ [] → ys = [] → Q (.ref a) H) ∧ (xs ≠ [] → ys ≠ [] → ∀ p, H p = none → Q (.ref p) (upd H p (.tup (xs ++ ys))))
theorem op_catA : OpR X (binaryOp .Add) (rCatA X.K) := by
  intro pins s σ H x y v u Q I rx ry h
  obtain ⟨a, b, xs, ys, rfl, rfl, ha, hb, hz, q0, q1, q2⟩ := h
  by_cases z : xs = []
  · subst z
    cases rx
    cases ry
    obtain ⟨its, r1, p1, _⟩ := I.tuple ha
    obtain ⟨its2, r2, p2, _⟩ := I.tuple hb
    cases r1
    exact HT.cat_none p1 p2 ⟨.ref b, H, I, rfl, q0 rfl⟩
  · exact op_catT pins s σ H _ _ v u Q I rx ry ⟨a, b, xs, ys, rfl, rfl, ha, hb, z, hz, q1 z, q2 z⟩
end
end L2

namespace L2
open PySem PySem.Spec PyProof.Rows
section
variable {X : Cx} {K : PySem.W.Frag} {e : Expr} {te : TE} {p q pos pos2 : Pos} {tg : Expr}
theorem op_inK (h : X.K = K := by rfl) : OpR X (compareOp .In) (rIn K false) := by subst h; exact op_in_seq
theorem op_notInK (h : X.K = K := by rfl) : OpR X (compareOp .NotIn) (rIn K true) := by subst h; exact op_notIn_seq
theorem op_eqK (hu : X.A.units + 64 < cLine) (h : X.K = K := by rfl) : OpR X (compareOp .Eq) (rEqD K false) := by subst h; exact op_eqD hu
theorem op_neK (hu : X.A.units + 64 < cLine) (h : X.K = K := by rfl) : OpR X (compareOp .NotEq) (rEqD K true) := by subst h; exact op_neD hu
theorem op_catK (h : X.K = K := by rfl) : OpR X (binaryOp .Add) (rCatA K) := by subst h; exact op_catA
theorem pe_tupRevK (hc : X.calm = true) (hg : Gl X "tuple") (hm : X.mg "tuple" = none) (hg2 : Gl X "reversed") (hm2 : X.mg "reversed" = none) (he : PE X e te) (h : X.K = K := by rfl)
    (h1 : starEach [.Call (.Name "reversed" q) [e] [] pos2] X.env = [(false, eval (.Call (.Name "reversed" q) [e] [] pos2) X.env)] := by rfl) (h2 : starEach [e] X.env = [(false, eval e X.env)] := by rfl) :
    PE X (.Call (.Name "tuple" p) [.Call (.Name "reversed" q) [e] [] pos2] [] pos) (tTR K te) := by subst h; exact pe_tupRev hc hg hm hg2 hm2 he h1 h2
theorem pe_tupRevTK (hc : X.calm = true) (hg : Gl X "tuple") (hm : X.mg "tuple" = none) (hg2 : Gl X "reversed") (hm2 : X.mg "reversed" = none) (he : PE X e te) (h : X.K = K := by rfl)
    (h1 : starEach [.Call (.Name "reversed" q) [e] [] pos2] X.env = [(false, eval (.Call (.Name "reversed" q) [e] [] pos2) X.env)] := by rfl) (h2 : starEach [e] X.env = [(false, eval e X.env)] := by rfl) :
    PE X (.Call (.Name "tuple" p) [.Call (.Name "reversed" q) [e] [] pos2] [] pos) (tTRT K te) := by subst h; exact pe_tupRevT hc hg hm hg2 hm2 he h1 h2
end
end L2

namespace L2
open PySem PySem.Spec PyProof.Rows
noncomputable def Itle (K : PySem.W.Frag) (a : Addr) : It :=
  ⟨fun i H => ∃ xs x, SqL K H a xs ∧ xs[i]? = some x, fun i H x H' => ∃ T y, x = .ref T ∧ H T = none ∧ H' = upd H T (.tup [.int (i : Nat), y]) ∧ ∀ xs, SqL K H a xs → xs[i]? = some y, fun i H => ∃ xs, SqL K H a xs ∧ xs.length ≤ i⟩
theorem turn_enumL {P : Program} {w : World} {K : PySem.W.Frag} {es : List Expr} {n : Nat} {p : Pos} (a e it : Addr) (hei : e ≠ it) :
    Turn P w K (.Tuple es n p) (Itle K a) [e, it] e (fun i h => (∃ old, IsEnum h e it (i : Nat) old) ∧ h.IsListIter it a i) where
  mem := by simp
  obj := fun i h st b hb => by
    obtain ⟨⟨old, he⟩, o, ho, hc, hd⟩ := st
    rcases List.mem_cons.mp hb with rfl | hb
    · refine ⟨_, he, fun v z => ?_⟩
      have z' : Data.fields _ = Data.cell v := z
      cases z'
    · rw [List.mem_singleton.mp hb]
      exact ⟨o, ho, fun v z => by rw [hd] at z; cases z⟩
  keep := fun i h h' st kk => by
    obtain ⟨⟨old, he⟩, hi⟩ := st
    exact ⟨⟨old, kk e (by simp) _ he⟩, hi.at fun o x => kk it (by simp) o x⟩
  item := by
    intro X hP hw hK hc i pins s σ H E I hf st hg
    subst hP hw hK
    obtain ⟨⟨old, he⟩, hi⟩ := st
    obtain ⟨xs, x, hq, hx⟩ := hg
    obtain ⟨its, rv, pt, hz⟩ := I.list hq
    obtain ⟨u, hu, ru⟩ := rv.get hx
    have pt' := pt.isList
    refine wpAny_pyNext_enum_item he hi pt' (x := u) (by simpa using hu) hei fun h1 ho hi' hT hsz hk => ?_
    refine ⟨_, rfl, ?_⟩
    refine wpAny_letOwnedTupleGo_enum (s := { s with heap := h1, toks := s.toks + 1 }) ho fun h2 he2 hs2 => ?_
    have hel : e < s.heap.objs.size := Heap.lt_size he
    have hil : it < s.heap.objs.size := by obtain ⟨o2, ho2, _⟩ := hi; exact Heap.lt_size ho2
    have hT2 : h2.get? s.heap.objs.size = some { cls := .type "tuple", data := .seq #[.int (i : Nat) s.toks, u] } := (hs2.2 _ (Nat.ne_of_gt hel)).trans hT
    have J1 : Inv X pins σ (upd H s.heap.objs.size (.tup [.int (i : Nat), x])) { s with heap := s.heap.push { cls := .type "tuple", data := .seq #[.int (i : Nat) s.toks, u] }, toks := s.toks + 1 } :=
      I.laid (fun b o q => Heap.get?_push_of_some _ q) (Nat.le_refl _) ⟨by show 2 ≤ sizeLine; decide, [.int (i : Nat) s.toks, u], .cons ⟨s.toks, rfl⟩ (.cons ru .nil), _, Heap.get?_push_size _ rfl, rfl, _, rfl⟩
    have J2 : Inv X pins σ (upd H s.heap.objs.size (.tup [.int (i : Nat), x])) { s with heap := h2, toks := s.toks + 1 } := by
      refine Inv.turnedL (s := { s with heap := s.heap.push { cls := .type "tuple", data := .seq #[.int (i : Nat) s.toks, u] }, toks := s.toks + 1 }) (ch := [e, it]) (t' := s.toks + 1) J1 (fun b o hb q => ?_) fun b hb => ?_
      · have b1 : b ≠ e := fun z => hb (by simp [z])
        have b2 : b ≠ it := fun z => hb (by simp [z])
        rcases Heap.get?_push_cases q with ⟨eb, eo⟩ | q
        · rw [eb, eo]; exact hT2
        · exact (hs2.2 b b1).trans (hk b o b1 b2 q)
      · obtain ⟨f0, f1, f2, f3, f4, f5⟩ := hf b hb
        refine ⟨?_, f1, f2, f3, f4, f5⟩
        rw [upd_ne]
        · exact f0
        · rcases List.mem_cons.mp hb with rfl | hb
          · exact Nat.ne_of_lt hel
          · rw [List.mem_singleton.mp hb]; exact Nat.ne_of_lt hil
    refine ⟨.ref s.heap.objs.size, _, J2, rfl, ⟨_, x, rfl, I.fresh, rfl, fun ys hy => by rw [I.list_inj hy hq]; exact hx⟩, ⟨⟨u, ?_⟩, ?_⟩, fun b hb => ?_⟩
    · exact he2
    · exact hi'.at fun o q => (hs2.2 it (Ne.symm hei)).trans q
    · have := (hf b hb).1
      rw [upd_ne]
      · exact this
      · rcases List.mem_cons.mp hb with rfl | hb
        · exact Nat.ne_of_lt hel
        · rw [List.mem_singleton.mp hb]; exact Nat.ne_of_lt hil
  done := by
    intro X hP hw hK hc i pins s σ H E I hf st hg
    subst hP hw hK
    obtain ⟨⟨old, he⟩, hi⟩ := st
    obtain ⟨xs, hq, hx⟩ := hg
    obtain ⟨its, rv, pt, hz⟩ := I.list hq
    have hl := rv.length
    obtain ⟨f0, f1, f2, f3, f4, f5⟩ := hf it (by simp)
    exact wpAny_pyNext_enum_end (I.ok.hd hc) he hi pt.isList (by simp; omega) fun h' he' => ⟨rfl, I.turned (t' := s.toks) (fun b o hb q => he' b o hb q) f0 f1 f3 f4 f5⟩
  self := fun _ _ _ _ _ st h => let ⟨⟨_, he⟩, _⟩ := st; wpAny_pyIter_enum he h
section
variable {X : Cx} {es : List Expr} {n : Nat} {tp : Pos}
noncomputable def iEnumL (K : PySem.W.Frag) (tl : TE) : TI := fun σ H R => tl σ H fun x H1 => ∃ a, x = .ref a ∧ (∃ xs, SqL K H1 a xs) ∧ R (Itle K a) H1
theorem pi_enumL {l : Expr} {tl : TE} {p pos : Pos} (hg : Gl X "enumerate") (hm : X.mg "enumerate" = none) (hl : PE X l tl)
    (hs : starEach [l] X.env = [(false, eval l X.env)] := by rfl) :
    PI X (.Tuple es n tp) (.Call (.Name "enumerate" p) [l] [] pos) (iEnumL X.K tl) := by
  intro pins s σ H R I h
  have pa : PA X [l] (tCons tl tNil) := pa_cons hl pa_nil hs
  refine Call_ (ld_blt I hg hm boot_enumerate (PyProof.Rows.callWith_type1 (thn (pa pos pins s σ H (fun vs H1 => match vs with | [x] => ∃ a, x = .ref a ∧ (∃ xs, SqL X.K H1 a xs) ∧ R (Itle X.K a) H1 | _ => False) I h) fun us s1 ⟨vs, H1, I1, r1, q1⟩ => ?_) (by rw [hs]; rfl) (by rfl)))
  match vs, r1, q1 with
  | [], _, q1 => exact q1.elim
  | _ :: _ :: _, _, q1 => exact q1.elim
  | [x], r1, q1 =>
    obtain ⟨a, rfl, ⟨xs, hq⟩, q1⟩ := q1
    obtain ⟨u, rfl, rx⟩ := r1.one
    cases rx
    obtain ⟨its, rv, pt, hz⟩ := I1.list hq
    refine call_enumerate_list pt.isList fun h' he hi hsz hk => ?_
    refine wpAny_pyIter_enum he ?_
    refine ⟨s1.heap.objs.size + 1, [s1.heap.objs.size + 1, s1.heap.objs.size], _, _, H1, rfl, I1.kept (t' := s1.toks) hk, turn_enumL a _ _ (Nat.succ_ne_self _), ⟨⟨.none, he⟩, hi⟩, fun b hb => ?_, q1⟩
    rcases List.mem_cons.mp hb with rfl | hb
    · exact I1.fpOk (Nat.le_succ _) (I1.hok.fresh (Nat.le_succ _))
    · rw [List.mem_singleton.mp hb]
      exact I1.fpOk (Nat.le_refl _) (I1.hok.fresh (Nat.le_refl _))
end
theorem for_enumL {K : PySem.W.Frag} {a : Addr} {xs : List V} {g : TG} {tb : TS} {D : Ends} {σ : St} {H : Hp} (Pv : Nat → St → Hp → Prop) (h0 : Pv 0 σ H) (hl : ∀ i σ H, i ≤ xs.length → Pv i σ H → SqL K H a xs)
    (hs : ∀ i x σ H T, xs[i]? = some x → Pv i σ H → H T = none → g (.ref T) σ (upd H T (.tup [.int (i : Nat), x])) fun σ2 H2 => tb { D with nx := Pv (i + 1), ct := Pv (i + 1), bk := D.nx } σ2 H2) (hd : ∀ σ H, Pv xs.length σ H → D.nx σ H) :
    ∃ W : Nat → Nat → St → Hp → Prop, (∃ m, W 0 m σ H) ∧ ∀ i m σ H, W i m σ H →
      ((Itle K a).stop i H ∧ D.nx σ H) ∨ ((Itle K a).go i H ∧ ∃ N : St → Hp → Prop, (∀ σ' H', N σ' H' → ∃ m', m' < m ∧ W (i + 1) m' σ' H') ∧ ∀ x H', (Itle K a).yld i H x H' → g x σ H' fun σ2 H2 => tb { D with nx := N, ct := N, bk := D.nx } σ2 H2) := by
  refine ⟨fun i m σ H => m = xs.length - i ∧ i ≤ xs.length ∧ Pv i σ H, ⟨xs.length, by simp, Nat.zero_le _, h0⟩, ?_⟩
  rintro i m σ H ⟨rfl, hi, p⟩
  have q := hl i σ H hi p
  by_cases hlt : i < xs.length
  · refine .inr ⟨⟨xs, xs[i], q, by simp [hlt]⟩, Pv (i + 1), fun σ' H' p' => ⟨xs.length - (i + 1), by omega, rfl, hlt, p'⟩, fun x H' y => ?_⟩
    obtain ⟨T, y, rfl, hT, rfl, hy⟩ := y
    exact hs i y σ _ T (hy xs q) p hT
  · have e : i = xs.length := by omega
    subst e
    exact .inl ⟨⟨xs, q, Nat.le_refl _⟩, hd σ H p⟩
end L2

namespace Enu
open PySem PyProof.Rows
section
variable {prog : Program} {w : World} {A : Around} {E : Value → Shared → Prop} {s : Shared} {r : Addr} {a b c : Int} {t u v : Tok} {n : Nat}
end
end Enu
namespace L2
open PySem PySem.Spec PyProof.Rows
section
variable {X : Cx} {e : Expr} {te : TE} {p q pos pos2 : Pos}
theorem b_any : bootBuiltins "any" = some (.builtin "any") := by decide +kernel
noncomputable def rAny (K : PySem.W.Frag) : List V → Hp → VK → Prop := fun xs H Q => ∃ (p : Addr) (bs : List Bool), xs = [.ref p] ∧ SqL K H p (bs.map V.bl) ∧ Q (.bl (bs.any id)) H
theorem call_anyL (hc : X.calm = true) : CallR X (.builtin "any") (rAny X.K) := by
  intro pins s σ H xs us Q I r h
  obtain ⟨p, bs, rfl, hq, q⟩ := h
  obtain ⟨u, rfl, rx⟩ := r.one
  cases rx
  obtain ⟨its, rv, pl, hz⟩ := I.list hq
  have hl := rv.length
  rw [List.length_map] at hl
  have hp : p < s.heap.objs.size := by obtain ⟨o, _, e, _⟩ := pl; exact Heap.lt_size e
  refine call_any_walk (wpAny_pyIter_list pl.isList ⟨s.heap.objs.size, [s.heap.objs.size, p], [s.heap.objs.size], _, _, _, fun i => bs.getD i false, rfl, Walks.list (A := X.A.in1) (I.ok.hd hc) s.heap.objs.size p (Nat.ne_of_lt hp) its.toArray, ?_, fun i v s' Q' E' hv hq' => ?_, fun h' tk kk => ?_⟩)
  · exact ⟨⟨_, Heap.get?_push_size _ rfl, rfl, rfl⟩, pl.isList.push _⟩
  · have hv' : its[i]? = some v := by simpa using hv
    have hi : i < bs.length := by rw [hl]; exact (List.getElem?_eq_some_iff.mp hv').1
    obtain ⟨u, e1, e2⟩ := rv.get (i := i) (x := .bl (bs.getD i false)) (by rw [List.getElem?_map, List.getD_eq_getElem?_getD, List.getElem?_eq_getElem hi]; rfl)
    rw [hv'] at e1
    cases e1
    cases e2
    exact wpAny_truthy_bool hq'
  · refine ⟨.bl (bs.any id), H, I.kept fun b o e => kk b o ?_ (Heap.get?_push_of_some _ e), ?_, q⟩
    · simp only [List.mem_singleton]; exact Nat.ne_of_lt (Heap.lt_size e)
    · show Value.bool _ = Value.bool _
      congr 1
      rw [List.size_toArray, ← hl]
      have : ∀ l : List Bool, (List.range l.length).any (fun i => l.getD i false) = l.any id := by
        intro l
        induction l with
        | nil => rfl
        | cons b l ih => rw [List.length_cons, List.range_succ_eq_map, List.any_cons, List.any_map, List.any_cons, ← ih]; rfl
      exact this bs
theorem call_anyK {K : PySem.W.Frag} (hc : X.calm = true) (h : X.K = K := by rfl) : CallR X (.builtin "any") (rAny K) := by subst h; exact call_anyL hc
end
end L2

namespace L2
open PySem PySem.Spec PyProof.Rows

section
variable {κ : Type} [DecidableEq κ]
noncomputable def valV (kvs : List (κ × V)) (k : κ) : Option V := (kvs.find? fun kv => decide (kv.1 = k)).map (·.2)
noncomputable def putK (kvs : List (κ × V)) (k : κ) (v : V) : List (κ × V) :=
  if (kvs.any fun kv => decide (kv.1 = k)) = true then kvs.map (fun kv => if kv.1 = k then (kv.1, v) else kv) else kvs ++ [(k, v)]
noncomputable def dropK (kvs : List (κ × V)) (k : κ) : List (κ × V) := kvs.filter fun kv => decide (kv.1 ≠ k)

theorem valV_nil {k : κ} : valV ([] : List (κ × V)) k = none := rfl
theorem valV_pos {p : κ × V} {r : List (κ × V)} {k : κ} (e : p.1 = k) : valV (p :: r) k = some p.2 := by simp [valV, List.find?_cons, e]
theorem valV_neg {p : κ × V} {r : List (κ × V)} {k : κ} (e : ¬ p.1 = k) : valV (p :: r) k = valV r k := by simp [valV, List.find?_cons, e]
theorem valV_any (k : κ) : ∀ kvs : List (κ × V), (kvs.any fun kv => decide (kv.1 = k)) = (valV kvs k).isSome
  | [] => rfl
  | p :: r => by
    rw [List.any_cons]
    by_cases e : p.1 = k
    · simp only [valV_pos e, decide_eq_true e, Bool.true_or, Option.isSome_some]
    · rw [valV_neg e, decide_eq_false e, Bool.false_or]; exact valV_any k r
theorem length_putK (kvs : List (κ × V)) (k : κ) (v : V) : (putK kvs k v).length ≤ kvs.length + 1 := by
  unfold putK
  split
  · rw [List.length_map]; omega
  · rw [List.length_append, List.length_cons, List.length_nil]; omega
theorem RelO.isSome_eq {o : Option V} {u : Option Value} (r : RelO o u) : o.isSome = u.isSome := by
  cases o with
  | none => cases u with
    | none => rfl
    | some _ => exact (show False from r).elim
  | some _ => cases u with
    | none => exact (show False from r).elim
    | some _ => rfl
theorem RelO.getD {o : Option V} {u : Option Value} {d : V} {d' : Value} (r : RelO o u) (rd : RelV d d') : RelV (o.getD d) (u.getD d') := by
  cases o with
  | none => cases u with
    | none => exact rd
    | some _ => exact (show False from r).elim
  | some _ => cases u with
    | none => exact (show False from r).elim
    | some _ => exact r

theorem KV.val {kvs : List (κ × V)} {vs : List (κ × Value)} (r : KV kvs vs) (k : κ) : RelO (valV kvs k) (valueAt vs k) := by
  unfold KV at r
  induction r with
  | nil => exact True.intro
  | @cons p q ps qs h t ih =>
    obtain ⟨h1, h2⟩ := h
    by_cases e : p.1 = k
    · have e' : q.1 = k := h1.symm.trans e
      have b : valueAt (q :: qs) k = some q.2 := by simp [valueAt, List.find?_cons, e']
      rw [valV_pos e, b]; exact h2
    · have e' : ¬ q.1 = k := fun z => e (h1.trans z)
      have b : valueAt (q :: qs) k = valueAt qs k := by simp [valueAt, List.find?_cons, e']
      rw [valV_neg e, b]; exact ih
theorem KV.any {kvs : List (κ × V)} {vs : List (κ × Value)} (r : KV kvs vs) (k : κ) : (kvs.any fun kv => decide (kv.1 = k)) = vs.any fun kv => decide (kv.1 = k) := by
  unfold KV at r
  induction r with
  | nil => rfl
  | cons h t ih => rw [List.any_cons, List.any_cons, ih, h.1]
theorem KV.repl {kvs : List (κ × V)} {vs : List (κ × Value)} (r : KV kvs vs) (k : κ) {y : V} {u : Value} (ry : RelV y u) :
    KV (kvs.map fun kv => if kv.1 = k then (kv.1, y) else kv) (vs.map fun kv => if kv.1 = k then (kv.1, u) else kv) := by
  unfold KV at r ⊢
  induction r with
  | nil => exact .nil
  | @cons p q ps qs h t ih =>
    rw [List.map_cons, List.map_cons]
    refine .cons ?_ ih
    obtain ⟨h1, h2⟩ := h
    by_cases e : p.1 = k
    · rw [if_pos e, if_pos (h1.symm.trans e)]; exact ⟨h1, ry⟩
    · rw [if_neg e, if_neg (fun z => e (h1.trans z))]; exact ⟨h1, h2⟩
theorem KV.put {kvs : List (κ × V)} {vs : List (κ × Value)} (r : KV kvs vs) (k : κ) {y : V} {u : Value} (ry : RelV y u) : KV (putK kvs k y) (stored vs k u) := by
  unfold putK stored
  rw [r.any k]
  by_cases e : (vs.any fun kv => decide (kv.1 = k)) = true
  · rw [if_pos e, if_pos e]; exact r.repl k ry
  · rw [if_neg e, if_neg e]; exact Paired.snoc r ⟨rfl, ry⟩
theorem KV.drop {kvs : List (κ × V)} {vs : List (κ × Value)} (r : KV kvs vs) (k : κ) : KV (dropK kvs k) (without vs k) := by
  unfold KV at r ⊢
  unfold dropK without
  induction r with
  | nil => exact .nil
  | @cons p q ps qs h t ih =>
    obtain ⟨h1, h2⟩ := h
    rw [List.filter_cons, List.filter_cons]
    by_cases e : p.1 = k
    · have a : ¬ decide (p.1 ≠ k) = true := by simp [e]
      have b : ¬ decide (q.1 ≠ k) = true := by simp [h1.symm.trans e]
      rw [if_neg a, if_neg b]; exact ih
    · have e' : ¬ q.1 = k := fun z => e (h1.trans z)
      have a : decide (p.1 ≠ k) = true := by simp [e]
      have b : decide (q.1 ≠ k) = true := by simp [e']
      rw [if_pos a, if_pos b]; exact .cons ⟨h1, h2⟩ ih
theorem KV.keys {kvs : List (κ × V)} {vs : List (κ × Value)} (r : KV kvs vs) : kvs.map (·.1) = vs.map (·.1) := by
  unfold KV at r
  induction r with
  | nil => rfl
  | cons h t ih => rw [List.map_cons, List.map_cons, ih, h.1]
theorem KV.length {kvs : List (κ × V)} {vs : List (κ × Value)} (r : KV kvs vs) : kvs.length = vs.length := Paired.length r
end


theorem kV_is {P : Program} {w : World} {k : Key} {u : Value} (r : RelV (kV k) u) : (mixKind P w).is k u = true := by
  cases k with
  | inl i => obtain ⟨t, e⟩ := (show ∃ t, u = Value.int i t from r); subst e; exact mixKind_int P w i t
  | inr x => obtain ⟨t, e⟩ := (show ∃ t, u = Value.str x t from r); subst e; exact mixKind_str P w x t
theorem items_are {P : Program} {w : World} : ∀ {ks : List Key} {us : List Value}, Vals (ks.map kV) us → ItemsAre (mixKind P w) ks us
  | [], _, r => by rw [List.map_nil] at r; cases r; exact .nil
  | k :: ks, _, r => by
    rw [List.map_cons] at r
    cases r with
    | cons h t => exact .cons (kV_is h) (items_are t)

noncomputable abbrev KT (H : Hp) : List (List Key × V) → List (List Key × Addr × Value) → Prop := Paired fun p q => p.1 = q.1 ∧ H q.2.1 = some (.tup (p.1.map kV)) ∧ RelV p.2 q.2.2
theorem KT.val {H : Hp} {kvs : List (List Key × V)} {xs : List (List Key × Addr × Value)} (r : KT H kvs xs) (k : List Key) : RelO (valV kvs k) ((atKey xs k).map (·.2)) := by
  induction r with
  | nil => exact True.intro
  | @cons p q ps qs h t ih =>
    obtain ⟨h1, _, h2⟩ := h
    by_cases e : p.1 = k
    · have e' : q.1 = k := h1.symm.trans e
      have b : atKey (q :: qs) k = some q.2 := by simp [atKey, List.find?_cons, e']
      rw [valV_pos e, b]; exact h2
    · have e' : ¬ q.1 = k := fun z => e (h1.trans z)
      have b : atKey (q :: qs) k = atKey qs k := by simp [atKey, List.find?_cons, e']
      rw [valV_neg e, b]; exact ih
theorem KT.repl {H : Hp} {kvs : List (List Key × V)} {xs : List (List Key × Addr × Value)} (r : KT H kvs xs) (k : List Key) {y : V} {u : Value} (ry : RelV y u) :
    KT H (kvs.map fun kv => if kv.1 = k then (kv.1, y) else kv) (xs.map (putAt k u)) := by
  induction r with
  | nil => exact .nil
  | @cons p q ps qs h t ih =>
    rw [List.map_cons, List.map_cons]
    refine .cons ?_ ih
    obtain ⟨h1, h2, h3⟩ := h
    unfold putAt
    by_cases e : p.1 = k
    · rw [if_pos e, if_pos (h1.symm.trans e)]; exact ⟨h1, h2, ry⟩
    · rw [if_neg e, if_neg (fun z => e (h1.trans z))]; exact ⟨h1, h2, h3⟩
theorem KT.put {H : Hp} {kvs : List (List Key × V)} {xs : List (List Key × Addr × Value)} (r : KT H kvs xs) (k : List Key) {b : Addr} {y : V} {u : Value} (hb : H b = some (.tup (k.map kV))) (ry : RelV y u) :
    KT H (putK kvs k y) (storedH xs k b u) := by
  have e : (kvs.any fun kv => decide (kv.1 = k)) = (atKey xs k).isSome := by
    rw [valV_any, (r.val k).isSome_eq, Option.isSome_map]
  unfold putK storedH
  rw [e]
  by_cases q : (atKey xs k).isSome = true
  · rw [if_pos q, if_pos q]; exact r.repl k ry
  · rw [if_neg q, if_neg q]; exact Paired.snoc r ⟨rfl, hb, ry⟩
theorem KT.keeps {H H' : Hp} {kvs : List (List Key × V)} {xs : List (List Key × Addr × Value)} (r : KT H kvs xs) (ht : ∀ b ys, H b = some (.tup ys) → H' b = some (.tup ys)) : KT H' kvs xs :=
  Paired.mapP r fun _ _ z => ⟨z.1, ht _ _ z.2.1, z.2.2⟩

section
variable {P : Program} {w : World} {H : Hp} {h : Heap} {a : Addr}
theorem rd_of {u : HO} (ok : HOk P w H h) (e : Rd H a u) : ObjOk P w H h a u := e.ok ok
theorem dk_rd {kvs : List (Key × V)} (ok : HOk P w H h) (e : Rd H a (.dK kvs)) : kvs.length ≤ sizeLine ∧ (a == sysModules) = false ∧ ∃ vs, KV kvs vs ∧ h.DictOf (mixKind P w) a vs :=
  show ObjOk P w H h a (.dK kvs) from rd_of ok e
theorem dk_of {kvs : List (Key × V)} (ok : HOk P w H h) (e : H a = some (.dK kvs)) : kvs.length ≤ sizeLine ∧ (a == sysModules) = false ∧ ∃ vs, KV kvs vs ∧ h.DictOf (mixKind P w) a vs := dk_rd ok (.inl e)
theorem key_of {ks : List Key} (ok : HOk P w H h) (e : H a = some (.tup (ks.map kV))) : (tupleKind (mixKind P w)).is h ks a := by
  obtain ⟨_, its, r, o, h1, h2, n, h3⟩ := (show ObjOk P w H h a (.tup (ks.map kV)) from ok a _ e)
  exact ⟨o, its.toArray, n, h1, h2, h3, by simpa using items_are r⟩
theorem dt_rd {kvs : List (List Key × V)} (ok : HOk P w H h) (e : Rd H a (.dT kvs)) : kvs.length ≤ sizeLine ∧ (a == sysModules) = false ∧
    ∃ xs, KT H kvs xs ∧ h.DictOfH (tupleKind (mixKind P w)) a xs := by
  obtain ⟨z, y, xs, r, o, es, ep, h1, h2, h3, h4, h5⟩ := (show ObjOk P w H h a (.dT kvs) from rd_of ok e)
  refine ⟨z, y, xs, r, o, es, ep, h1, h2, h3, h4, fun x hx => ?_, h5⟩
  have all : ∀ {l : List (List Key × V)} {m : List (List Key × Addr × Value)}, KT H l m → ∀ x ∈ m, (tupleKind (mixKind P w)).is h x.1 x.2.1 := by
    intro l m q
    induction q with
    | nil => intro x hx; exact nomatch hx
    | @cons p q ps qs hq t ih =>
      intro x hx
      rcases List.mem_cons.mp hx with e | hx
      · subst e
        exact key_of ok (by rw [← hq.1]; exact hq.2.1)
      · exact ih x hx
  exact all r x hx
theorem dt_of {kvs : List (List Key × V)} (ok : HOk P w H h) (e : H a = some (.dT kvs)) : kvs.length ≤ sizeLine ∧ (a == sysModules) = false ∧
    ∃ xs, KT H kvs xs ∧ h.DictOfH (tupleKind (mixKind P w)) a xs := dt_rd ok (.inl e)
end

noncomputable def DGet (H : Hp) (a : Addr) (y : V) (r : Option V) : Prop :=
  (∃ kvs k, Rd H a (.dK kvs) ∧ y = kV k ∧ r = valV kvs k) ∨ ∃ kvs k b, Rd H a (.dT kvs) ∧ y = .ref b ∧ H b = some (.tup (k.map kV)) ∧ r = valV kvs k
noncomputable def DPut (H : Hp) (a : Addr) (y v : V) (H' : Hp) : Prop :=
  (∃ kvs k, H a = some (.dK kvs) ∧ y = kV k ∧ kvs.length < sizeLine ∧ H' = upd H a (.dK (putK kvs k v))) ∨
  ∃ kvs k b, H a = some (.dT kvs) ∧ y = .ref b ∧ H b = some (.tup (k.map kV)) ∧ kvs.length < sizeLine ∧ H' = upd H a (.dT (putK kvs k v))
theorem DGet.k {H : Hp} {a : Addr} {kvs : List (Key × V)} {k : Key} (e : H a = some (.dK kvs)) : DGet H a (kV k) (valV kvs k) := .inl ⟨kvs, k, .inl e, rfl, rfl⟩
theorem DGet.t {H : Hp} {a b : Addr} {kvs : List (List Key × V)} {k : List Key} (e : H a = some (.dT kvs)) (eb : H b = some (.tup (k.map kV))) : DGet H a (.ref b) (valV kvs k) := .inr ⟨kvs, k, b, .inl e, rfl, eb, rfl⟩
theorem DPut.k {H : Hp} {a : Addr} {kvs : List (Key × V)} {k : Key} {v : V} (e : H a = some (.dK kvs)) (hl : kvs.length < sizeLine) : DPut H a (kV k) v (upd H a (.dK (putK kvs k v))) := .inl ⟨kvs, k, e, rfl, hl, rfl⟩
theorem DPut.t {H : Hp} {a b : Addr} {kvs : List (List Key × V)} {k : List Key} {v : V} (e : H a = some (.dT kvs)) (eb : H b = some (.tup (k.map kV))) (hl : kvs.length < sizeLine) :
    DPut H a (.ref b) v (upd H a (.dT (putK kvs k v))) := .inr ⟨kvs, k, b, e, rfl, eb, hl, rfl⟩


section
variable {X : Cx} {pins : List (Addr × Obj)} {σ : St} {H : Hp} {s : Shared} {a : Addr} {y v : V} {u r : Value} {o : Option V} {A : Around} {E : Value → Shared → Prop}

theorem Inv.big (I : Inv X pins σ H s) : sysModules < s.heap.objs.size := by
  have h : mainGlobals < s.heap.objs.size := (I.mod.glob.keeps I.bk).lt
  exact Nat.lt_trans (by decide) h

theorem d_in {Q : Value → Shared → Prop} (hu : A.units + 1 < cLine) (I : Inv X pins σ H s) (g : DGet H a y o) (ry : RelV y u) (h : ∀ s', Inv X pins σ H s' → Q (.bool o.isSome) s') :
    wpAny (model X.prog X.w) A (compareOp .In u (.ref a)) Q E s := by
  rcases g with ⟨kvs, k, e, ey, l⟩ | ⟨kvs, k, b, e, ey, eb, l⟩
  · subst ey
    obtain ⟨z, hd, vs, rel, dd⟩ := dk_rd I.hok e
    refine wpAny_in_of (kV_is ry) hd dd.mapOf ?_
    rw [← (rel.val k).isSome_eq, ← l]
    exact h _ (I.tok _)
  · subst ey
    cases (show u = Value.ref b from ry)
    obtain ⟨z, hd, xs, rel, dd⟩ := dt_rd I.hok e
    refine wpAny_in_heap (tupleKind_room_in1 hu) (key_of I.hok eb) hd dd ?_
    have q := (rel.val k).isSome_eq
    rw [Option.isSome_map] at q
    rw [← q, ← l]
    exact h _ (I.tok _)
theorem d_write {h' : Heap} {t' : Nat} {ob : HO} (I : Inv X pins σ H s) (mu : Mut (H a)) (hs : Heap.SameBut a s.heap h') (he : ∃ q, h'.get? a = some q) (new : ObjOk X.prog X.w (upd H a ob) h' a ob) :
    Inv X pins σ (upd H a ob) { s with heap := h', toks := t' } :=
  I.write (x := a) (e := a) mu (.inl rfl) (fun b q hb z => (hs.2 b hb).trans z) he new
theorem dk_new {P : Program} {w : World} {H' : Hp} {h' : Heap} {kvs : List (Key × V)} {vs : List (Key × Value)} (z : kvs.length ≤ sizeLine) (hd : (a == sysModules) = false) (rel : KV kvs vs) (dd : h'.DictOf (mixKind P w) a vs) :
    ObjOk P w H' h' a (.dK kvs) := ⟨z, hd, vs, rel, dd⟩
theorem d_setItem {H' : Hp} {Q : Unit → Shared → Prop} (hu : A.units + 1 < cLine) (I : Inv X pins σ H s) (g : DPut H a y v H') (ry : RelV y u) (rv : RelV v r) (h : ∀ s', Inv X pins σ H' s' → Q () s') :
    wpAny (model X.prog X.w) A (setItem (.ref a) u r) Q E s := by
  rcases g with ⟨kvs, k, e, ey, l, eH⟩ | ⟨kvs, k, b, e, ey, eb, l, eH⟩
  · subst ey eH
    obtain ⟨z, hd, vs, rel, dd⟩ := dk_of I.hok e
    have hz : vs.length ≤ sizeLine := by rw [← rel.length]; exact z
    have hl : (putK kvs k v).length ≤ sizeLine := by have := length_putK kvs k v; omega
    refine wpAny_setItem_pairs (hsz := hz) (kV_is ry) dd fun h' dd' hs => h _ ?_
    have he : ∃ q, h'.get? a = some q := let ⟨q, _, _, hq, _⟩ := dd'; ⟨q, hq⟩
    exact d_write I (by rw [e]; exact True.intro) hs he (dk_new hl hd (rel.put k rv) dd')
  · subst ey eH
    cases (show u = Value.ref b from ry)
    obtain ⟨z, hd, xs, rel, dd⟩ := dt_of I.hok e
    have hz : xs.length ≤ sizeLine := by rw [← Paired.length rel]; exact z
    have hl : (putK kvs k v).length ≤ sizeLine := by have := length_putK kvs k v; omega
    refine wpAny_setItem_heap (hsz := hz) (tupleKind_room_in1 hu) (key_of I.hok eb) dd fun h' dd' hs => h _ ?_
    obtain ⟨q, es, ep, hq, h2, h3, h4, _, h5⟩ := dd'
    refine d_write I (by rw [e]; exact True.intro) hs ⟨q, hq⟩ ⟨hl, hd, _, (rel.put k eb rv).keeps fun c ys ec => ?_, q, es, ep, hq, h2, h3, h4, h5⟩
    rw [upd_ne (ne_of ec e (fun z => nomatch z))]
    exact ec
end

section
variable {X : Cx} {pins : List (Addr × Obj)} {σ : St} {H : Hp} {s : Shared} {a : Addr} {kvs : List (Key × V)} {k : Key} {u : Value} {A : Around} {E : Value → Shared → Prop}
end


noncomputable def tDIn (ty td : TE) : TE := fun σ H Q => ty σ H fun y H1 => td σ H1 fun x H2 => ∃ a o, x = .ref a ∧ DGet H2 a y o ∧ Q (.bl o.isSome) H2
noncomputable def sDPut (td ty tv : TE) : TS := fun D σ H => tv σ H fun v H1 => td σ H1 fun x H2 => ty σ H2 fun y H3 => ∃ a H4, x = .ref a ∧ DPut H3 a y v H4 ∧ D.nx σ H4
section
variable {X : Cx} {o i e value : Expr} {pos pos' tpos : Pos} {td ty tv : TE}
theorem pc_din (hu : X.A.units + 1 < cLine) (hi : PE X i ty) (ho : PE X o td) : PC X .In i o (tDIn ty td) := by
  intro pins s σ H Q I h
  refine thn (hi pins s σ H _ I h) fun iv s1 ⟨y, H1, I1, ry, q1⟩ => thn (ho pins s1 σ H1 _ I1 q1) fun u s2 ⟨x, H2, I2, rx, a, ov, ex, g, q2⟩ => ?_
  subst ex
  obtain rfl : u = Value.ref a := rx
  exact d_in hu I2 g ry fun s3 I3 => ⟨.bl ov.isSome, H2, I3, rfl, q2⟩
theorem ps_dput (hu : X.A.units + 1 < cLine) (ho : PE X o td) (hi : PE X i ty) (hv : PE X value tv) (hs : swapsWith value (some (.Subscript o i pos')) pos.line X.env = pure false) :
    PS X (.Assign [.Subscript o i pos'] value pos) (sDPut td ty tv) := by
  intro pins s σ H D I h
  refine wpAny_Assign_Subscript (thn (hv pins s σ H _ I h) fun r s1 ⟨v, H1, I1, rv, q1⟩ => thn (ho pins s1 σ H1 _ I1 q1) fun u s2 ⟨x, H2, I2, rx, q2⟩ => thn (hi pins s2 σ H2 _ I2 q2) fun iv s3 ⟨y, H3, I3, ry, a, H4, ex, g, q3⟩ => ?_) hs
  subst ex
  obtain rfl : u = Value.ref a := rx
  exact d_setItem hu I3 g ry rv fun s4 I4 => ⟨σ, H4, I4, q3⟩
end


theorem dt_empty {P : Program} {w : World} {H : Hp} (h : Heap) (hb : sysModules < h.objs.size) : ObjOk P w H (h.push { cls := .type "dict", data := .dict #[] }) h.objs.size (.dT []) :=
  ⟨Nat.zero_le _, beq_eq_false_iff_ne.mpr (Ne.symm (Nat.ne_of_lt hb)), [], .nil, _, #[], 0, Heap.get?_push_size _ rfl, ⟨rfl, rfl, rfl⟩, rfl, rfl, List.nodup_nil⟩
noncomputable def tDNewT : TE := fun _ H Q => ∀ p, H p = none → Q (.ref p) (upd H p (.dT []))
section
variable {X : Cx} {pos : Pos}
theorem pe_dnewT : PE X (.Dict [] [] pos) tDNewT := fun pins s σ H Q I h =>
  wpAny_Dict_empty ⟨.ref s.heap.objs.size, _, I.laid (a := s.heap.objs.size) (o := .dT []) (t' := s.toks) (fun _ _ q => Heap.get?_push_of_some _ q) (Nat.le_refl _) (dt_empty s.heap I.big), rfl, h _ (I.hok.fresh (Nat.le_refl _))⟩
end

end L2

namespace Tim
open PySem PyProof.Rows
theorem perm_map_inv {α β : Type} {f : α → β} : ∀ {l : List β} {m : List α}, l.Perm (m.map f) → ∃ m' : List α, l = m'.map f ∧ m'.Perm m
  | [], m, h => by
    have : m = [] := by simpa using h.length_eq.symm
    exact ⟨[], rfl, by rw [this]⟩
  | b :: l, m, h => by
    obtain ⟨a, ha, rfl⟩ := List.mem_map.mp (h.mem_iff.mp List.mem_cons_self)
    obtain ⟨s, t, rfl⟩ := List.append_of_mem ha
    have h1 : (f a :: l).Perm (f a :: (s ++ t).map f) := h.trans (by simpa using (List.perm_middle (l₁ := s) (l₂ := t) (a := a)).map f)
    obtain ⟨m', e, hm⟩ := perm_map_inv (List.Perm.cons_inv h1)
    refine ⟨a :: m', by rw [List.map_cons, e], ?_⟩
    exact (hm.cons a).trans List.perm_middle.symm
section
variable {prog : Program} {w : World} {A : Around} {E : Value → Shared → Prop} {s : Shared} {kd : SortKind} {Ok : Keyed → Prop} {R : Keyed → Keyed → Bool} {Hs : Shared → Prop}
set_option maxHeartbeats 2000000 in
theorem key_tail {a kS : Addr} {n : Nat} {keys : Array Value} {e e1 : Nat} {P : PySem.Fin → Shared → Prop} {st : SortSt} (nk : s.heap.get? kS = some (seqObj "list" keys e)) (na : s.heap.get? a = some (seqObj "list" #[] e1)) (hka : kS ≠ a) (hsz : keys.size = n) (hz : n ≤ sizeLine)
    (hs2 : (arrOf st).size = n) (hfl : failedOf st = none)
    (h : ∀ h' tk c, (∀ b o, b ≠ kS → b ≠ a → s.heap.get? b = some o → h'.get? b = some o) → h'.get? a = some (seqObj "list" ((arrOf st).map (·.2)) c) → P (.done (.ret .none)) { s with heap := h', toks := tk }) :
    wpAny (model prog w) A (ksk_tail a false e1 (.ref kS) st) P E s := by
  have s1 := Heap.SameBut.update s.heap kS (Obj.mapSeq fun _ => (#[] : Array Value))
  have na1 : (s.heap.update kS (Obj.mapSeq fun _ => (#[] : Array Value))).get? a = some (seqObj "list" #[] e1) := (s1.2 a hka.symm).trans na
  have s2 := Heap.SameBut.update (s.heap.update kS (Obj.mapSeq fun _ => (#[] : Array Value))) a (Obj.mapSeq fun _ => (arrOf st).map (·.2))
  obtain ⟨c2, hc2⟩ : ∃ c2, ((s.heap.update kS (Obj.mapSeq fun _ => (#[] : Array Value))).update a (Obj.mapSeq fun _ => (arrOf st).map (·.2))).get? a = some (seqObj "list" ((arrOf st).map (·.2)) c2) :=
    ⟨_, get?_update_seq na1 fun _ => (arrOf st).map (·.2)⟩
  unfold ksk_tail
  try dsimp only
  refine wpAny_bind (listUpdate_at nk rfl ?_ (by rw [hsz]; omega) (Nat.zero_le _))
  refine wpAny_bind (wpAny_letGo ?_)
  refine wpAny_bind (seqEpoch_at na1 rfl ?_)
  simp only [Bool.false_eq_true, if_false]
  refine wpAny_bind (listUpdate_at na1 rfl ?_ (Nat.zero_le _) (by show ((arrOf st).map (·.2)).size ≤ sizeLine + 1; rw [Array.size_map, hs2]; omega))
  rw [hfl]
  simp only [bne_self_eq_false, Bool.false_eq_true, if_false]
  exact wpAny_pure (h _ _ c2 (fun b o b1 b2 q => (s2.2 b b2).trans ((s1.2 b b1).trans q)) hc2)
theorem key_end {a kS : Addr} {vs : List Value} {keys : Array Value} {e e1 : Nat} {P : PySem.Fin → Shared → Prop} (nk : s.heap.get? kS = some (seqObj "list" keys e)) (na : s.heap.get? a = some (seqObj "list" #[] e1)) (hka : kS ≠ a) (hsz : keys.size = vs.length) (hz : vs.length ≤ sizeLine)
    (hs : Hs s) (hO : OrdAll prog w Hs kd Ok R) (hOk : 2 ≤ vs.length → ∀ x ∈ (keys.zip vs.toArray).toList, Ok x)
    (hK : 2 ≤ vs.length → ∀ (A : Around) (E : Value → Shared → Prop) (s' : Shared) (Q : SortKind → Shared → Prop), Hs s' → Q kd s' → wpAny (model prog w) A (keyKind' keys) Q E s')
    (h : ∀ (ps : List Keyed) h' tk c, ps.Perm (keys.toList.zip vs) → ps.Pairwise (fun x y => le R x y) → (∀ b o, b ≠ kS → b ≠ a → s.heap.get? b = some o → h'.get? b = some o) → h'.get? a = some (seqObj "list" (ps.map (·.2)).toArray c) → P (.done (.ret .none)) { s with heap := h', toks := tk }) :
    wpAny (model prog w) A (ksk_end a false vs.toArray e1 (.ref kS) keys) P E s := by
  have hzs : (keys.zip vs.toArray).size = vs.length := by rw [Array.size_zip, hsz, List.size_toArray, Nat.min_self]
  unfold ksk_end
  try dsimp only
  simp only [Bool.false_eq_true, if_false]
  by_cases h2 : vs.toArray.size < 2
  · rw [if_pos h2, if_pos h2]
    refine wpAny_bind (wpAny_pure ?_)
    rw [StateT.run_pure]
    refine wpAny_bind (wpAny_pure ?_)
    try dsimp only
    refine key_tail (st := SortSt.mk' general' (keys.zip vs.toArray) #[] 7 none) nk na hka hsz hz hzs rfl fun h' tk c k1 k2 => ?_
    have k2' : h'.get? a = some (seqObj "list" ((keys.toList.zip vs).map (·.2)).toArray c) := by
      rw [k2]
      have : (keys.zip vs.toArray).map (·.2) = ((keys.toList.zip vs).map (·.2)).toArray := by
        apply Array.toList_inj.mp
        rw [Array.toList_map, ksk_zip]
      exact congrArg (fun z => some (seqObj "list" z c)) this
    refine h _ h' tk c (List.Perm.refl _) ?_ k1 k2'
    have hl : (keys.toList.zip vs).length < 2 := by rw [List.length_zip, Array.length_toList, hsz, Nat.min_self]; simpa using h2
    match keys.toList.zip vs, hl with
    | [], _ => exact List.Pairwise.nil
    | [_], _ => exact List.pairwise_singleton _ _
    | _ :: _ :: _, hl => simp at hl; omega
  · rw [if_neg h2, if_neg h2]
    have h2' : 2 ≤ vs.length := by rw [List.size_toArray] at h2; omega
    refine wpAny_bind (hK h2' A _ _ _ hs ?_)
    have O := hO A E s hs
    refine wpAny_bind (wpAny_mono (wpS_sortAll O (a₀ := keys.zip vs.toArray) (fun x hx => hOk h2' x hx) (st := SortSt.mk' kd (keys.zip vs.toArray) #[] 7 none)
      (Q := fun _ st' => (arrOf st').Perm (keys.zip vs.toArray) ∧ failedOf st' = none ∧ Srt R (arrOf st') 0 (keys.zip vs.toArray).size) (Array.Perm.refl _) rfl rfl rfl (by rw [hzs]; exact h2') fun st' a1 a2 a3 => ⟨a1, a2, a3⟩) ?_ fun _ _ e => e)
    rintro ⟨⟨⟩, st'⟩ s' ⟨rfl, hp', hf, hs'⟩
    try dsimp only
    refine key_tail nk na hka hsz hz (by rw [hp'.size_eq]; exact hzs) hf fun h' tk c k1 k2 => ?_
    refine h (arrOf st').toList h' tk c (by rw [← ksk_zip]; exact Array.perm_iff_toList_perm.mp hp') ?_ k1 ?_
    · rw [List.pairwise_iff_getElem]
      intro i j hi hj hij
      have li : i < (arrOf st').size := by simpa using hi
      have lj : j < (arrOf st').size := by simpa using hj
      have q := hs' i j (Nat.zero_le _) (by omega) (by rw [← hp'.size_eq]; exact lj)
      have gi : ∀ {t : Nat} (ht : t < (arrOf st').size) (ht' : t < (arrOf st').toList.length), g (arrOf st') t = (arrOf st').toList[t] := fun {t} ht ht' => by
        have := g_list ht
        rw [List.getElem?_eq_getElem ht'] at this
        exact (Option.some.inj this).symm
      rw [gi li hi, gi lj hj] at q
      exact q
    · rw [k2]
      have : (arrOf st').map (·.2) = ((arrOf st').toList.map (·.2)).toArray := by
        apply Array.toList_inj.mp
        rw [Array.toList_map]
      rw [this]
end
end Tim
namespace L2
open PySem PySem.Spec PyProof.Rows
section
variable {X : Cx} {pins : List (Addr × Obj)} {σ : St} {H : Hp} {s : Shared}
theorem Inv.adopt {a : Addr} {o : HO} {t' : Nat} (I : Inv X pins σ H s) (f : FpOk X pins H a) (new : ObjOk X.prog X.w (upd H a o) s.heap a o) : Inv X pins σ (upd H a o) { s with heap := s.heap, toks := t' } := by
  obtain ⟨f0, f1, f2, f3, f4, f5⟩ := f
  refine I.step (g' := s.gens) (d' := s.drawn) (ch := [a]) (fun b hb => ?_) (fun b o _ _ hc e _ => e) (fun b o _ _ hc e _ => ⟨o.slots, e⟩) (fun b o hc e n => by rw [upd_ne (fun z => hc (by simp [z]))]; exact n)
    (fun b o hc e => ⟨o, e⟩) (fun b xs q => by rw [upd_ne (ne_of_none q f0)]; exact q) (fun b u xs q => by rw [upd_ne (ne_of_none q f0)]; exact q) (fun b ps q => ⟨#[], by rw [upd_ne (ne_of_none q f0), q]; simp⟩) (fun m hm => hm) (fun b u e => ?_) I.bare
  · have e : b = a := by simpa using hb
    subst e
    exact ⟨f3, f1, f4, f5⟩
  · by_cases hb : b = a
    · subst hb; rw [upd_same] at e; cases e; exact new
    · rw [upd_ne hb] at e
      exact (I.hok b u e).stay (fun c v _ q => q) (fun c q => by rw [upd_ne (ne_of_none q f0)]; exact q) fun c xs q => by rw [upd_ne (ne_of_none q f0)]; exact q
end
noncomputable def spRev (K : PySem.W.Frag) : Sp := fun vs H Q _ => ∃ (p : Addr) (xs : List Int), vs = [.ref p] ∧ SqT K H p (xs.map V.int) ∧ ∀ t H2, Same H H2 → H2 t = some (.tup (xs.reverse.map V.int)) → Q (.ref t) H2
theorem same_up {H H1 : Hp} {L : Addr} {o : HO} (s : Same H H1) (hL : H L = none) : Same H (upd H1 L o) := fun b u e => by rw [upd_ne (ne_of_none e hL)]; exact s b u e
theorem tup_in {X : Cx} {pins : List (Addr × Obj)} {σ : St} {H : Hp} {s : Shared} (I : Inv X pins σ H s) {a : Addr} {xs : List Int} (hx : SqT X.K H a (xs.map V.int)) : (xs ≠ [] → Tim.TupIn s.heap (.ref a)) ∧ Tim.intsIn s.heap (.ref a) = xs := by
  obtain ⟨ts, rt, ⟨o, ho, hc, n, hd⟩, _⟩ := I.tuple hx
  have hi := ints_vals rt
  refine ⟨fun hn => ⟨a, o, ts.toArray, n, rfl, ho, hc, hd, ints_all hi, ?_⟩, ?_⟩
  · rw [List.size_toArray, ← rt.length, List.length_map]
    exact List.length_pos_iff.mpr hn
  · show (match s.heap.get? a with | some o => _ | none => _) = xs
    rw [ho]
    simp only [hd]
    exact (ints_num hi).symm
theorem kind_tups {P : Program} {w : World} {h₀ : Heap} {l : List Addr} {A : Around} {E : Value → Shared → Prop} {s' : Shared} {Q : SortKind → Shared → Prop} (hl : ∀ a ∈ l, Tim.TupIn h₀ (.ref a)) (h2 : 2 ≤ l.length) (hs' : ∀ b o, h₀.get? b = some o → s'.heap.get? b = some o)
    (hq : Q (tuples' true) s') : wpAny (model P w) A (keyKind' (l.map Value.ref).toArray) Q E s' := by
  have kt : ∀ (l : List Addr), (∀ a ∈ l, Tim.TupIn h₀ (.ref a)) → ∃ fs, PySem.W.KatTups s'.heap (l.map Value.ref) fs ∧ fs.length = l.length ∧ ∀ f ∈ fs, ∃ i t, f = Value.int i t := by
    intro l
    induction l with
    | nil => intro _; exact ⟨[], trivial, rfl, (fun _ h => nomatch h)⟩
    | cons a l ih =>
      intro hl
      obtain ⟨fs, f1, f2, f3⟩ := ih fun b hb => hl b (List.mem_cons_of_mem _ hb)
      obtain ⟨a', o, xs, n, ea, ha, ca, da, ia, hpos⟩ := hl a List.mem_cons_self
      cases ea
      refine ⟨xs[0] :: fs, ⟨⟨a, o, xs, n, rfl, hs' _ _ ha, ca, da, by rw [Array.getElem?_eq_getElem hpos]⟩, f1⟩, by simp [f2], fun f hf => ?_⟩
      rcases List.mem_cons.mp hf with rfl | hf
      · exact ia _ (by simp)
      · exact f3 f hf
  obtain ⟨fs, f1, f2, f3⟩ := kt l hl
  refine PySem.W.kat_kind (T := .type "int") f1 (by rw [f2]; omega) (fun v hv => ?_) rfl hq
  obtain ⟨i, t, rfl⟩ := f3 v hv
  exact .now
theorem refs_of {vs : List Value} : ∀ {as : List Addr}, Vals (as.map V.ref) vs → vs = as.map Value.ref := by
  intro as
  induction as generalizing vs with
  | nil => intro rv; cases rv; rfl
  | cons a as ih => intro rv; cases rv with | cons r t => rw [show _ = Value.ref a from r, ih t]; rfl
theorem vals_refs : ∀ bs : List Addr, Vals (bs.map V.ref) (bs.map Value.ref)
  | [] => .nil
  | _ :: bs => .cons rfl (vals_refs bs)
noncomputable def KeysAt (H : Hp) (kb : List Addr) (F : List (List Int)) : Prop := Paired (fun b xs => H b = some (.tup ((List.reverse xs).map V.int))) kb F
theorem KeysAt.same {H H' : Hp} {kb : List Addr} {F : List (List Int)} (h : KeysAt H kb F) (s : Same H H') : KeysAt H' kb F := Paired.mapP h fun _ _ z => s _ _ z
section
variable {X : Cx} {k : Nat} {x : Str}
theorem sorted_key {f : Addr} {fd : FuncData} {ps : List Str} (hc : X.calm = true) (F : FnOk X.prog X.w X.K X.mg X.base CX0 k f fd ps (spRev X.K)) (hb : Binds X.K fd ps []) (hr : Room (k + 1) X.A)
    {pins : List (Addr × Obj)} {σ : St} {H : Hp} {s : Shared} {Q : VK} (I : Inv X pins σ H s) {p : Addr} {as : List Addr} {G : List (List Int)} (hq : SqL X.K H p (as.map V.ref)) (ht : TupsAt X.K H as G) (hne : as.length < 2 ∨ ∀ x ∈ G, x ≠ [])
    (q : ∀ (l : Addr) (H2 : Hp) (bs : List Addr) (F2 : List (List Int)), Same H H2 → H l = none → H2 l = some (.lst (bs.map V.ref)) → (bs.zip F2).Perm (as.zip G) → bs.length = F2.length → F2.Pairwise (fun x y => HT.lexLt y.reverse x.reverse = false) → Q (.ref l) H2) :
    wpAny (model X.prog X.w) X.A (call (.builtin "sorted") [.ref p] [(Str.ofString "key", .ref f)]) (EP X pins σ Q) X.xe s := by
  have hlen : as.length = G.length := Paired.length ht
  obtain ⟨its, rv, pl, hz⟩ := I.list hq
  obtain rfl := refs_of rv
  have hz' : as.length ≤ sizeLine := by simpa using hz
  refine call_function_entry_kw kind_sorted plain_sorted entry_sorted (ksk_s1 _ _) ?_
  unfold Builtin.«sorted»
  refine wpAny_bind (m := checkCount "sorted" 1 1 _) (wpAny_pure ?_)
  obtain ⟨o, n, ho, hcl, _, hd⟩ := pl
  refine wpAny_bind (wpAny_collect_seq p (.inl rfl) ho hcl hd (fun h1 k1 => ?_) (by simpa using hz'))
  refine wpAny_bind (wpAny_newList ?_ (by simpa using hz'))
  have hoL : (h1.push (seqObj "list" (as.map Value.ref).toArray 0)).get? h1.objs.size = some (seqObj "list" (as.map Value.ref).toArray 0) := Heap.get?_push_size _ rfl
  have hne1 : ∀ {b : Addr} {o : Obj}, h1.get? b = some o → b ≠ h1.objs.size := fun e => Nat.ne_of_lt (Heap.lt_size e)
  generalize hsl : h1.objs.size = a at hoL hne1
  have I1 : Inv X pins σ H { s with heap := h1, toks := s.toks } := I.kept k1
  refine wpAny_bind (wpAny_holding (wpAny_call_entry_kw slot_list_sort ⟨_, hoL, rfl⟩ entry_list_sort ?body (ksk_l1 _ _)))
  show wpAny (model X.prog X.w) X.A.in1.in1 (Builtin.«list.sort» ⟨[.ref a], [(Str.ofString "key", .ref f)]⟩) _ _ _
  rw [ksk_t1]
  have s1 := Heap.SameBut.update (h1.push (seqObj "list" (as.map Value.ref).toArray 0)) a (Obj.mapSeq fun _ => (#[] : Array Value))
  obtain ⟨e1, ho1⟩ : ∃ e1, ((h1.push (seqObj "list" (as.map Value.ref).toArray 0)).update a (Obj.mapSeq fun _ => (#[] : Array Value))).get? a = some (seqObj "list" #[] e1) := ⟨_, get?_update_seq hoL fun _ => #[]⟩
  unfold ksk_tree
  refine wpAny_bind (listItems_at hoL rfl ?_)
  refine wpAny_bind (listUpdate_at hoL rfl ?_ (by simpa using hz') (Nat.zero_le _))
  refine wpAny_bind (seqEpoch_at ho1 rfl ?_)
  refine wpAny_bind (wpAny_newTuple ?_ (by simpa using hz'))
  refine wpAny_bind (wpAny_newList ?_ (Nat.zero_le _))
  refine wpAny_holding ?_
  generalize hg2 : (h1.push (seqObj "list" (as.map Value.ref).toArray 0)).update a (Obj.mapSeq fun _ => (#[] : Array Value)) = h2 at ho1 s1
  have hz2 : h2.objs.size = a + 1 := by rw [← hg2, Heap.size_update, size_push', hsl]
  have kS0 : (h2.push (seqObj "tuple" (as.map Value.ref).toArray 0)).objs.size = a + 2 := by rw [size_push', hz2]
  have k3 : ∀ b o, h1.get? b = some o → ((h2.push (seqObj "tuple" (as.map Value.ref).toArray 0)).push (seqObj "list" #[] 0)).get? b = some o := fun b o e =>
    Heap.get?_push_of_some _ (Heap.get?_push_of_some _ ((s1.2 b (hne1 e)).trans (Heap.get?_push_of_some _ e)))
  have hka : a + 2 ≠ a := by omega
  have hk0 : ((h2.push (seqObj "tuple" (as.map Value.ref).toArray 0)).push (seqObj "list" #[] 0)).get? (a + 2) = some (seqObj "list" #[] 0) := by
    have := Heap.get?_push_size (h2.push (seqObj "tuple" (as.map Value.ref).toArray 0)) (o := seqObj "list" #[] 0) rfl
    rw [kS0] at this; exact this
  have ha0 : ((h2.push (seqObj "tuple" (as.map Value.ref).toArray 0)).push (seqObj "list" #[] 0)).get? a = some (seqObj "list" #[] e1) := Heap.get?_push_of_some _ (Heap.get?_push_of_some _ ho1)
  generalize hg3 : (h2.push (seqObj "tuple" (as.map Value.ref).toArray 0)).push (seqObj "list" #[] 0) = h3 at k3 hk0 ha0
  show wpAny (model X.prog X.w) X.A.in1.in1 (ksk_rest a (.ref f) false (as.map Value.ref).toArray e1 (.ref (h2.push (seqObj "tuple" (as.map Value.ref).toArray 0)).objs.size)) _ _ { s with heap := _ }
  rw [kS0]
  have I3 : Inv X pins σ H { s with heap := h3, toks := s.toks } := I1.kept (h' := h3) k3
  have fa : ∀ {H' : Hp}, H' a = none → FpOk X pins H' a := fun hn => I1.fpOk (b := a) (Nat.le_of_eq hsl) hn
  have fk : ∀ {H' : Hp}, H' (a + 2) = none → FpOk X pins H' (a + 2) := fun hn => I1.fpOk (b := a + 2) (by show h1.objs.size ≤ a + 2; omega) hn
  have na : H a = none := I1.hok.fresh (Nat.le_of_eq hsl)
  have nk : H (a + 2) = none := I1.hok.fresh (show h1.objs.size ≤ a + 2 by omega)
  unfold ksk_rest
  refine wpAny_bind (wpAny_rule ?_)
  first
    | rw [List.forIn_toArray]
    | (rw [← Array.forIn_toList]; simp only [List.toList_toArray])
    | rw [← Array.forIn_toList]
  refine wpAny_bind (ksk_fold (fun j s' => ∃ (H' : Hp) (kb : List Addr) (e : Nat), Inv X pins σ H' s' ∧ Same H H' ∧ H' a = none ∧ H' (a + 2) = none ∧ s'.heap.get? (a + 2) = some (seqObj "list" (kb.map Value.ref).toArray e) ∧ s'.heap.get? a = some (seqObj "list" #[] e1) ∧ KeysAt H' kb (G.take j)) (as.map Value.ref) 0 _
    ⟨H, [], 0, I3, fun _ _ e => e, na, nk, hk0, ha0, .nil⟩ ?step ?done)
  case step =>
    rintro j v s' hv ⟨H', kb, e, I', sm, na', nk', ok, oa, kt⟩
    rw [Nat.zero_add] at kt ⊢
    rw [List.getElem?_map] at hv
    obtain ⟨b, hbj, rfl⟩ := Option.map_eq_some_iff.mp hv
    have hj : j < as.length := (List.getElem?_eq_some_iff.mp hbj).1
    obtain ⟨xs, hxj, hxs⟩ : ∃ xs, G[j]? = some xs ∧ SqT X.K H b (xs.map V.int) := by
      have : ∀ {as : List Addr} {G : List (List Int)}, TupsAt X.K H as G → ∀ {j : Nat} {b : Addr}, as[j]? = some b → ∃ xs, G[j]? = some xs ∧ SqT X.K H b (xs.map V.int) := by
        intro as G h
        induction h with
        | nil => intro j b e; simp at e
        | cons r t ih =>
          intro j b e
          cases j with
          | zero => simp at e; subst e; exact ⟨_, rfl, r⟩
          | succ j => exact ih (by simpa using e)
      exact this ht hbj
    have kbl : kb.length = j := by rw [Paired.length kt, List.length_take]; omega
    have Ip := I'.pinned (fp := [a, a + 2]) (fun c hc' => by
      rcases List.mem_cons.mp hc' with rfl | hc'
      · exact fa na'
      · rw [List.mem_singleton.mp hc']; exact fk nk') (fun c hc' => by
      rcases List.mem_cons.mp hc' with rfl | hc'
      · exact ⟨_, oa, fun v z => by cases (show Data.seq _ _ = Data.cell v from z)⟩
      · rw [List.mem_singleton.mp hc']; exact ⟨_, ok, fun v z => by cases (show Data.seq _ _ = Data.cell v from z)⟩)
    have rv1 : Vals [V.ref b] [Value.ref b] := .cons rfl .nil
    have hsp : spRev X.K [.ref b] H' (fun v H2 => ∃ t, v = .ref t ∧ Same H' H2 ∧ H2 t = some (.tup (xs.reverse.map V.int))) E0 := ⟨b, xs, rfl, sm.sqT hxs, fun t H2 s2 e2 => ⟨t, rfl, s2, e2⟩⟩
    have hl1 : ([Value.ref b] ++ []).length = ps.length := by rw [← F.len _ _ _ _ hsp]; rfl
    have hroom : Room k X.A.in1.in1 := ⟨hr.hd, by have := hr.dp; show X.A.depth + 3 * k + 5 < _; omega, by have := hr.un; show X.A.units + 1 + 1 + 16 * k + 200 < _; omega⟩
    have en := Ip.env0
    have en2 : Env0 X.prog X.w X.K X.mg X.base X.A.in1.in1 X.stack s' H' := ⟨en.frames, en.mod, en.bs, en.bsz, en.funs, en.frf, en.hok, en.bare⟩
    have run := F.run X.A.in1.in1 X.stack s' H' ⟨[.ref b], []⟩ [.ref b] [.ref b] _ E0 hroom en2 (by have := hb s' [.ref b] Ip.kIn hl1; rwa [List.append_nil] at this) rv1 hsp
    refine wpAny_bind (wpAny_attempt (wpAny_call (codeAny_mono run fun r s2 hq2 => ?_)))
    cases r with
    | error ex => exact absurd hq2 (by intro z; exact z)
    | ok fl =>
      cases fl with
      | next => exact False.elim hq2
      | brk => exact False.elim hq2
      | cont => exact False.elim hq2
      | ret u =>
        obtain ⟨v2, H2, I2, r2, t, rfl, sm2, e2⟩ := Ip.after hq2
        cases r2
        have pa := I2.pin (a, seqObj "list" #[] e1) (List.mem_append_right _ (List.mem_append_right _ (mem_pinsAt (by simp) oa)))
        have pk := I2.pin (a + 2, seqObj "list" (kb.map Value.ref).toArray e) (List.mem_append_right _ (List.mem_append_right _ (mem_pinsAt (by simp) ok)))
        try dsimp only
        have su := Heap.SameBut.update s2.heap (a + 2) (Obj.mapSeq (·.push (.ref t)))
        obtain ⟨c2, hc2⟩ : ∃ c2, (s2.heap.update (a + 2) (Obj.mapSeq (·.push (.ref t)))).get? (a + 2) = some (seqObj "list" ((kb.map Value.ref).toArray.push (.ref t)) c2) := ⟨_, get?_update_seq pk.1 (·.push (.ref t))⟩
        refine wpAny_bind (listUpdate_at pk.1 rfl ?_ (by simp; omega) (Nat.le_trans (Nat.le_of_eq (Array.size_push ..)) (by simp; omega)))
        obtain ⟨f0, f1, f2, f3, f4, f5⟩ := fk pk.2.1
        have I4 : Inv X pins σ H2 { s2 with heap := s2.heap.update (a + 2) (Obj.mapSeq (·.push (.ref t))), toks := s2.toks } := I2.unpinned.turned (fun b o hb e => (su.2 b hb).trans e) f0 f1 f3 f4 f5
        refine wpAny_pure ⟨rfl, H2, kb ++ [t], c2, I4, sm.trans sm2, pa.2.1, pk.2.1, ?_, (su.2 a (fun z => hka z.symm)).trans pa.1, ?_⟩
        · rw [hc2]
          congr 2
          simp
        · have et : G.take (j + 1) = G.take j ++ [xs] := by rw [List.take_add_one, hxj]; simp
          rw [et]
          exact Paired.snoc (kt.same sm2) e2
  case done =>
    rintro s' ⟨H', kb, e, I', sm, na', nk', ok, oa, kt⟩
    have et : G.take (0 + (as.map Value.ref).length) = G := List.take_of_length_le (by simp; omega)
    rw [et] at kt
    have kbl : kb.length = as.length := by rw [Paired.length kt, hlen]
    try dsimp only
    refine wpAny_bind (listItems_at ok rfl ?_)
    have kin : ∀ {kb : List Addr} {G : List (List Int)}, KeysAt H' kb G → (∀ (i : Nat) (b : Addr) (xs : List Int), kb[i]? = some b → G[i]? = some xs → (xs ≠ [] → Tim.TupIn s'.heap (.ref b)) ∧ Tim.intsIn s'.heap (.ref b) = xs.reverse) := by
      intro kb G h
      induction h with
      | nil => intro i b xs e; simp at e
      | cons r t ih =>
        intro i b xs e1 e2
        cases i with
        | zero =>
          simp at e1 e2
          subst e1 e2
          obtain ⟨z1, z2⟩ := tup_in I' (.inl (.inl r))
          exact ⟨fun hn => z1 (by simpa using hn), z2⟩
        | succ i => exact ih i b xs (by simpa using e1) (by simpa using e2)
    have kin := kin kt
    refine Tim.key_end (Hs := fun s => ∀ b o, s'.heap.get? b = some o → s.heap.get? b = some o) (kd := tuples' true) ok oa hka (by simp [kbl]) (by simpa using hz') (fun _ _ e => e) (Tim.ord_tup (h₀ := s'.heap)) (fun h2 x hx => ?_) (fun h2 A E s3 Q3 hs3 hq3 => ?_) fun pz h' tk c hp hs k1 k2 => ?_
    · rw [ksk_zip] at hx
      have hx1 := (List.of_mem_zip hx).1
      rw [List.toList_toArray] at hx1
      obtain ⟨b, hbm, eb⟩ := List.mem_map.mp hx1
      obtain ⟨i, hi, eb2⟩ := List.mem_iff_getElem.mp hbm
      have hg : G.length = kb.length := by omega
      obtain ⟨z1, _⟩ := kin i b G[i] (by rw [List.getElem?_eq_getElem hi, eb2]) (by rw [List.getElem?_eq_getElem (by omega)])
      show Tim.TupIn s'.heap x.1
      rw [← eb]
      refine z1 ?_
      rcases hne with h | h
      · simp at h2; omega
      · exact h _ (List.getElem_mem _)
    · refine kind_tups (h₀ := s'.heap) (fun b hbm => ?_) (by simp at h2; omega) hs3 hq3
      obtain ⟨i, hi, eb2⟩ := List.mem_iff_getElem.mp hbm
      obtain ⟨z1, _⟩ := kin i b (G[i]'(by omega)) (by rw [List.getElem?_eq_getElem hi, eb2]) (by rw [List.getElem?_eq_getElem (by omega)])
      refine z1 ?_
      rcases hne with h | h
      · simp at h2; omega
      · exact h _ (List.getElem_mem _)
    · rw [List.toList_toArray] at hp
      have e0 : (kb.map Value.ref).zip (as.map Value.ref) = (List.range as.length).map fun i => (Value.ref (kb.getD i 0), Value.ref (as.getD i 0)) := by
        refine List.ext_getElem (by simp [kbl]) fun i h1 h2 => ?_
        have i1 : i < as.length := by simpa using h2
        have i2 : i < kb.length := by omega
        simp [i1, i2]
      rw [e0] at hp
      obtain ⟨idx, rfl, hidx⟩ := Tim.perm_map_inv hp
      have hin : ∀ i ∈ idx, i < as.length := fun i hi => List.mem_range.mp (hidx.mem_iff.mp hi)
      have k2' : h'.get? a = some (seqObj "list" ((idx.map fun i => as.getD i 0).map Value.ref).toArray c) := by
        rw [k2, List.map_map, List.map_map]; rfl
      have lz : (idx.map fun i => as.getD i 0).length ≤ sizeLine := by rw [List.length_map, hidx.length_eq, List.length_range]; exact hz'
      have J1 : Inv X pins σ H' { s' with heap := h', toks := tk } := by
        refine Inv.turnedL (ch := [a, a + 2]) I' (fun b o hb e => k1 b o (fun z => hb (by simp [z])) (fun z => hb (by simp [z])) e) fun b hb => ?_
        rcases List.mem_cons.mp hb with rfl | hb
        · exact fa na'
        · rw [List.mem_singleton.mp hb]; exact fk nk'
      have J2 : Inv X pins σ (upd H' a (.lst ((idx.map fun i => as.getD i 0).map V.ref))) { s' with heap := h', toks := tk } :=
        Inv.adopt (s := { s' with heap := h', toks := tk }) (t' := tk) J1 (fa na') ⟨by rw [List.length_map]; exact lz, _, c, vals_refs _, k2'⟩
      refine ⟨_, rfl, wpAny_pure ⟨_, rfl, .ref a, _, J2, rfl, q a _ (idx.map fun i => as.getD i 0) (idx.map fun i => G.getD i []) (same_up sm na) na upd_same ?_ (by simp) ?_⟩⟩
      · have e3 : as.zip G = (List.range as.length).map fun i => (as.getD i 0, G.getD i []) := by
          refine List.ext_getElem (by simp [hlen]) fun i h1 h2 => ?_
          have i1 : i < as.length := by simpa using h2
          have i2 : i < G.length := by omega
          simp [i1, i2]
        rw [e3, List.zip_map', ]
        exact hidx.map _
      · rw [List.pairwise_map] at hs ⊢
        refine (hs.imp_of_mem (fun {i j} hi hj hij => ?_))
        have li := hin i hi
        have lj := hin j hj
        have gi : ∀ {t : Nat}, t < as.length → Tim.intsIn s'.heap (.ref (kb.getD t 0)) = (G.getD t []).reverse := fun {t} ht => by
          have t1 : t < kb.length := by omega
          have t2 : t < G.length := by omega
          have := (kin t (kb.getD t 0) (G.getD t []) (by simp [t1]) (by simp [t2])).2
          exact this
        have hij : HT.lexLt (Tim.intsIn s'.heap (.ref (kb.getD j 0))) (Tim.intsIn s'.heap (.ref (kb.getD i 0))) = false := hij
        rw [gi li, gi lj] at hij
        exact hij
variable {e : Expr} {te : TE} {pp pos kp np : Pos}
noncomputable def tSrtK (K : PySem.W.Frag) (te : TE) : TE := fun σ H Q => te σ H fun x H1 => ∃ (p : Addr) (as : List Addr) (G : List (List Int)), x = .ref p ∧ SqL K H1 p (as.map V.ref) ∧ TupsAt K H1 as G ∧ (as.length < 2 ∨ ∀ x ∈ G, x ≠ []) ∧
  ∀ (l : Addr) (H2 : Hp) (bs : List Addr) (F2 : List (List Int)), Same H1 H2 → H1 l = none → H2 l = some (.lst (bs.map V.ref)) → (bs.zip F2).Perm (as.zip G) → bs.length = F2.length → F2.Pairwise (fun x y => HT.lexLt y.reverse x.reverse = false) → Q (.ref l) H2
theorem pe_sortedKey (hc : X.calm = true) (c : Cal X.prog X.w X.K X.mg X.base x k (spRev X.K)) (hr : Room (k + 1) X.A) (hg : Gl X "sorted") (hm : X.mg "sorted" = none) (hgx : Gl X x) (he : PE X e te) (hdb : (x == ("__debug__" : Str)) = false := by decide)
    (hs : starEach [e] X.env = [(false, eval e X.env)] := by rfl) :
    PE X (.Call (.Name "sorted" pp) [e] [⟨some "key", .Name x np, kp⟩] pos) (tSrtK X.K te) := by
  intro pins s σ H Q I h
  obtain ⟨f, fd, ps, hmf, F, hk, hb⟩ := c
  refine wpAny_Call_Name_kw (ld_blt I hg hm b_sorted ?_)
  have hcw : ∀ {Q : Value → Shared → Prop}, wpAny (model X.prog X.w) X.A (evalArgs (.builtin "sorted") true (backTo pos (starEach [e] X.env)) (backToKw pos (keywordEach [⟨some "key", .Name x np, kp⟩] X.env))) (fun a s1 => wpAny (model X.prog X.w) X.A (call (.builtin "sorted") ([] ++ a.pos) a.kw) Q X.xe s1) X.xe s →
      wpAny (model X.prog X.w) X.A (callWith pos (.builtin "sorted") [] (backTo pos (starEach [e] X.env)) (backToKw pos (keywordEach [⟨some "key", .Name x np, kp⟩] X.env))) Q X.xe s := by
    intro Q h
    unfold callWith
    refine wpAny_bind (wpAny_holding (wpAny_mono h (fun a s₁ h₁ => wpAny_bind (wpAny_standAt ?_)) fun _ _ x => x))
    rw [hs]
    refine wpAny_bind (wpAny_pure ?_)
    exact wpAny_bind (wpAny_mono h₁ (fun r s₂ hr => wpAny_bind (wpAny_holding (wpAny_point (wpAny_pure hr)))) fun _ _ x => x)
  refine hcw ?_
  have hs2 : backTo pos (starEach [e] X.env) = [(false, eval e X.env)] := by rw [hs]; rfl
  rw [hs2]
  refine evalArgs_kwB rfl ?_
  have pa : PA X [e] (tCons te tNil) := pa_cons he pa_nil hs
  rw [← hs2]
  have h' : te σ H (fun x H1 => ∃ (p : Addr) (as : List Addr) (G : List (List Int)), x = .ref p ∧ SqL X.K H1 p (as.map V.ref) ∧ TupsAt X.K H1 as G ∧ (as.length < 2 ∨ ∀ x ∈ G, x ≠ []) ∧
    ∀ (l : Addr) (H2 : Hp) (bs : List Addr) (F2 : List (List Int)), Same H1 H2 → H1 l = none → H2 l = some (.lst (bs.map V.ref)) → (bs.zip F2).Perm (as.zip G) → bs.length = F2.length → F2.Pairwise (fun x y => HT.lexLt y.reverse x.reverse = false) → Q (.ref l) H2) := h
  refine thn (pa pos pins s σ H (fun vs H1 => match vs with | [x] => ∃ (p : Addr) (as : List Addr) (G : List (List Int)), x = .ref p ∧ SqL X.K H1 p (as.map V.ref) ∧ TupsAt X.K H1 as G ∧ (as.length < 2 ∨ ∀ x ∈ G, x ≠ []) ∧
    ∀ (l : Addr) (H2 : Hp) (bs : List Addr) (F2 : List (List Int)), Same H1 H2 → H1 l = none → H2 l = some (.lst (bs.map V.ref)) → (bs.zip F2).Perm (as.zip G) → bs.length = F2.length → F2.Pairwise (fun x y => HT.lexLt y.reverse x.reverse = false) → Q (.ref l) H2 | _ => False) I h') fun us s1 ⟨vs, H1, I1, r1, q1⟩ => ?_
  match vs, r1, q1 with
  | [], _, q1 => exact q1.elim
  | _ :: _ :: _, _, q1 => exact q1.elim
  | [x1], r1, q1 =>
    obtain ⟨p, as, G, rfl, hq, ht, hne, q⟩ := q1
    obtain ⟨u, rfl, rx⟩ := r1.one
    cases rx
    refine thn (pk_cons (nm := some "key") (kpos := kp) (pe_glob (v := .ref f) (pos := np) hgx hmf rfl hdb) pk_nil pos pins s1 σ H1 (fun zs H2 => zs = [.ref f] ∧ H2 = H1) I1 ⟨rfl, rfl⟩) fun ks s2 ⟨zs, H2, I2, r2, q2⟩ => ?_
    obtain ⟨rfl, rfl⟩ := q2
    obtain ⟨z, rfl, rz⟩ := r2.one
    cases rz
    exact sorted_key hc F hb hr I2 hq ht hne q
end
end L2

namespace HT
open PySem PyProof.Rows
section
variable {prog : Program} {w : World} {A : Around} {E : Value → Shared → Prop} {s : Shared}
theorem adjust_rev (n : Nat) : Builtin.Slice.sliceAdjust none none (-1) (n : Int) = ((n : Int) - 1, -1) := by
  unfold Builtin.Slice.sliceAdjust
  simp
theorem places_rev (n : Nat) : Builtin.Slice.slicePlaces ((n : Int) - 1) (-1) (-1) = n := by
  unfold Builtin.Slice.slicePlaces
  have h1 : ¬ ((-1 : Int) > 0) := by omega
  simp only [h1, if_false, Int.neg_neg, Int.ediv_one]
  split <;> omega
theorem sliceApplied_rev {sl : Addr} {n : Nat} {t : Tok} {Q : Int × Int × Nat → Shared → Prop} (hs : s.heap.IsSliceOf sl .none .none (.int (-1) t)) (h : Q ((n : Int) - 1, -1, n) s) : wpAny (model prog w) A (Builtin.Slice.sliceApplied (.ref sl) (pure (n : Int))) Q E s := by
  obtain ⟨os, hos, hcs, hds⟩ := id hs
  unfold Builtin.Slice.sliceApplied Builtin.Slice.sliceFields
  refine wpAny_bind (wpAny_bind (wpAny_field hos hds (x := .none) rfl (wpAny_bind (wpAny_field hos hds (x := .none) rfl (wpAny_bind (wpAny_field hos hds (x := .int (-1) t) rfl (wpAny_pure ?_)))))))
  refine wpAny_bind (slicePart_int ?_)
  show wpAny _ _ (if ((-1 : Int) == 0) = true then _ else _) _ _ s
  rw [if_neg (by decide)]
  refine wpAny_bind (slicePart_none (wpAny_bind (slicePart_none (wpAny_bind (wpAny_pure ?_)))))
  show wpAny _ _ (match Builtin.Slice.sliceAdjust none none (-1) (n : Int) with | (lo, hi) => pure (lo, (-1 : Int), Builtin.Slice.slicePlaces lo hi (-1))) _ _ s
  rw [adjust_rev n]
  show wpAny _ _ (pure ((n : Int) - 1, (-1 : Int), Builtin.Slice.slicePlaces ((n : Int) - 1) (-1) (-1))) _ _ s
  rw [places_rev]
  exact wpAny_pure h
theorem fm_congr {α β : Type} {f g : α → Option β} : ∀ {l : List α}, (∀ x ∈ l, f x = g x) → l.filterMap f = l.filterMap g
  | [], _ => rfl
  | x :: l, h => by
    rw [List.filterMap_cons, List.filterMap_cons, h x List.mem_cons_self, fm_congr fun y hy => h y (List.mem_cons_of_mem _ hy)]
theorem pick_rev (xs : Array Value) : ((List.range xs.size).filterMap fun (m : Nat) => xs[(((xs.size : Nat) : Int) - 1 + (m : Int) * (-1)).toNat]?).toArray = xs.toList.reverse.toArray := by
  congr 1
  have e : (List.range xs.size).filterMap (fun (m : Nat) => xs[(((xs.size : Nat) : Int) - 1 + (m : Int) * (-1)).toNat]?) = (List.range xs.toList.reverse.length).filterMap fun i => xs.toList.reverse[i]? := by
    rw [List.length_reverse, Array.length_toList]
    refine fm_congr fun m hm => ?_
    have hm := List.mem_range.mp hm
    rw [show ((((xs.size : Nat) : Int) - 1 + (m : Int) * (-1)).toNat) = xs.size - 1 - m by omega, List.getElem?_reverse (by simpa using hm)]
    simp
  rw [e]
  exact List.filterMap_getElem?_range_length _
theorem getItem_tuple_rev {t sl : Addr} {items : Array Value} {tk : Tok} {Q : Value → Shared → Prop} (ht : IsTup s.heap t items) (hs : s.heap.IsSliceOf sl .none .none (.int (-1) tk))
    (h : Q (.ref s.heap.objs.size) { s with heap := s.heap.push { cls := .type "tuple", data := .seq items.toList.reverse.toArray } })
    (hsz : items.size ≤ sizeLine) : wpAny (model prog w) A (getItem (.ref t) (.ref sl)) Q E s := by
  have htake : sizeOk (.seq items.toList.reverse.toArray) := by
    show items.toList.reverse.toArray.size ≤ sizeLine
    rw [List.size_toArray, List.length_reverse, Array.length_toList]
    exact hsz
  obtain ⟨os, hos, hcs, hds⟩ := id hs
  have hTs : s.TypeIs (.ref sl) "slice" := ⟨os, hos, hcs⟩
  unfold getItem
  try with_reducible refine wpAny_holding ?_
  first | refine wpAny_bind (wpAny_pure ?_) | skip
  refine wpAny_bind (wpAny_sequenceKey ht.typeIs (by decide) ?_)
  refine wpAny_bind (wpAny_callSpecial?_slot (name := Str.ofString "__getitem__") ht.typeIs PyProof.Rows.slot_tuple_getitem
    (wpAny_call_entry PyProof.Rows.slot_tuple_getitem ht.typeIs entry_tuple_getitem ?_ (args_tuple_getitem _ _)))
  show wpAny _ _ (Builtin.Tuple.tupleItemsOf (.ref t) >>= _) _ _ s
  refine wpAny_bind (tupleItemsOf_ ht ?_)
  refine wpAny_bind (wpAny_typeOf hTs ?_)
  rw [if_pos (by decide)]
  refine wpAny_bind (sliceApplied_rev hs ?_)
  have hno : ¬ ((((items.size : Nat) : Int) - 1 == 0 && (-1 : Int) == 1 && items.size == items.size) = true) := by simp
  show wpAny _ _ (if (((items.size : Nat) : Int) - 1 == 0 && (-1 : Int) == 1 && items.size == items.size) = true then _ else _) _ _ s
  rw [if_neg hno, pick_rev]
  first
    | exact wpAny_bind (m := Builtin.Tuple.tupleExact _) (wpAny_newObj_type (wpAny_pure ⟨_, rfl, wpAny_pure h⟩) htake)
    | exact wpAny_bind (m := Builtin.Tuple.tupleExact _) (wpAny_newObj_type (wpAny_bind (wpAny_pure (wpAny_pure ⟨_, rfl, wpAny_pure h⟩))) htake)
    | exact wpAny_bind (wpAny_bind (m := Builtin.Tuple.tupleExact _) (wpAny_newObj_type (wpAny_pure (wpAny_pure ⟨_, rfl, wpAny_pure h⟩)) htake))
    | exact wpAny_bind (wpAny_bind (m := Builtin.Tuple.tupleExact _) (wpAny_newObj_type (wpAny_pure ⟨_, rfl, wpAny_pure h⟩) htake))
end
end HT
namespace L2
open PySem PySem.Spec PyProof.Rows
section
variable {X : Cx} {e ex : Expr} {te tx : TE} {pos p2 : Pos}
noncomputable def tSlRev (K : PySem.W.Frag) (te tx : TE) : TE := fun σ H Q => te σ H fun x H1 => tx σ H1 fun y H2 => y = .int (-1) ∧ ∃ a xs, x = .ref a ∧ SqT K H2 a xs ∧ ∀ p, H2 p = none → Q (.ref p) (upd H2 p (.tup xs.reverse))
theorem pe_sliceRev (he : PE X e te) (hx : PE X ex tx) : PE X (.Subscript e (.Slice none none (some ex) p2) pos) (tSlRev X.K te tx) := by
  intro pins s σ H Q I h
  refine Subscript_ (thn (he pins s σ H _ I h) fun v s1 ⟨x, H1, I1, r1, q1⟩ => ?_)
  refine wpAny_Slice ?_
  rw [evalPart_none, evalPart_some]
  refine wpAny_pure (wpAny_pure ?_)
  refine thn (hx pins s1 σ H1 _ I1 q1) fun u s3 ⟨y, H3, I3, ry, q3⟩ => ?_
  obtain ⟨rfl, a, xs, rfl, hq, q⟩ := q3
  obtain ⟨tk, rfl⟩ := ry
  cases r1
  have I4 : Inv X pins σ H3 { s3 with heap := s3.heap.push { cls := .type "slice", data := .fields #[.none, .none, .int (-1) tk] } } := I3.kept (t' := s3.toks) fun b ob q => Heap.get?_push_of_some _ q
  obtain ⟨its, r, ht, hz⟩ := I4.tuple hq
  have hlen : its.toArray.size = xs.length := by rw [List.size_toArray]; exact r.length.symm
  show wpAny (model X.prog X.w) X.A (subscriptTail e (.Slice none none (some ex) p2) (.ref a) (.ref s3.heap.objs.size)) (EP X pins σ Q) X.xe { s3 with heap := s3.heap.push { cls := .type "slice", data := .fields #[.none, .none, .int (-1) tk] } }
  refine tail_any (ops := [.ref a, .ref s3.heap.objs.size]) ht.typeIs PyProof.Rows.slot_tuple_getitem.lookup ?_ (by with_unfolding_all rfl)
  refine HT.getItem_tuple_rev ht (Heap.IsSliceOf.new ..) ?_ (by rw [hlen]; exact hz)
  refine ⟨.ref _, _, I4.laid (t' := s3.toks) (o := .tup xs.reverse) (fun b ob q => Heap.get?_push_of_some _ q) (Nat.le_refl _) ?_, rfl, q _ (I4.hok.fresh (Nat.le_refl _))⟩
  exact ⟨by rw [List.length_reverse]; exact hz, its.reverse, vals_rev r, _, Heap.get?_push_size _ rfl, rfl, _, rfl⟩
end
section
variable {X : Cx}
noncomputable def rInT (K : PySem.W.Frag) (neg : Bool) : R2 := fun x y H Q => ∃ (p a : Addr) (as : List Addr) (F : List (List Int)) (x0 : List Int), x = .ref a ∧ y = .ref p ∧ SqL K H p (as.map V.ref) ∧ TupsAt K H as F ∧ SqT K H a (x0.map V.int) ∧ Q (.bl (if neg then !decide (x0 ∈ F) else decide (x0 ∈ F))) H
open Classical in
theorem inT_core (hu : X.A.units + 64 < cLine) {pins : List (Addr × Obj)} {σ : St} {H : Hp} {s : Shared} (I : Inv X pins σ H s) {p a : Addr} {as : List Addr} {F : List (List Int)} {x0 : List Int} (hq : SqL X.K H p (as.map V.ref)) (ht : TupsAt X.K H as F) (ha : SqT X.K H a (x0.map V.int)) :
    ∃ f : Value → Bool, (∀ u ∈ as.map Value.ref, SeqAt.EqAt X.A.in1 s u (.ref a) (f u)) ∧ (as.map Value.ref).any f = decide (x0 ∈ F) := by
  have key : ∀ {as : List Addr} {F : List (List Int)}, TupsAt X.K H as F → ∀ (i : Nat) (b : Addr), as[i]? = some b → ∃ xs, F[i]? = some xs ∧ SqT X.K H b (xs.map V.int) := by
    intro as F h
    induction h with
    | nil => intro i b e; simp at e
    | cons r t ih =>
      intro i b e
      cases i with
      | zero => simp at e; subst e; exact ⟨_, rfl, r⟩
      | succ i => exact ih i b (by simpa using e)
  have inj : ∀ {xs ys : List Int}, xs.map V.int = ys.map V.int → xs = ys := by
    intro xs
    induction xs with
    | nil => intro ys e; cases ys with | nil => rfl | cons y ys => cases e
    | cons x xs ih =>
      intro ys e
      cases ys with
      | nil => cases e
      | cons y ys =>
        rw [List.map_cons, List.map_cons] at e
        injection e with e1 e2
        injection e1 with e3
        rw [e3, ih e2]
  have dqi : ∀ xs ys : List Int, deqs (xs.map Dt.i) (ys.map Dt.i) = decide (xs = ys) := by
    intro xs
    induction xs with
    | nil => intro ys; cases ys <;> simp [deqs]
    | cons x xs ih =>
      intro ys
      cases ys with
      | nil => simp [deqs]
      | cons y ys =>
        rw [List.map_cons, List.map_cons, deqs, ih, deq]
        rw [Bool.eq_iff_iff]
        simp
  have lki : ∀ xs ys : List Int, likes (xs.map Dt.i) (ys.map Dt.i) := by
    intro xs
    induction xs with
    | nil => intro ys; cases ys <;> trivial
    | cons x xs ih => intro ys; cases ys with | nil => trivial | cons y ys => exact ⟨trivial, ih ys⟩
  have dpi : ∀ xs : List Int, deps (xs.map Dt.i) = 0 := by
    intro xs
    induction xs with
    | nil => rfl
    | cons x xs ih => rw [List.map_cons, deps, ih]; rfl
  have ati : ∀ xs : List Int, AtDs X.K H (xs.map V.int) (xs.map Dt.i) := by
    intro xs
    induction xs with
    | nil => trivial
    | cons x xs ih => exact ⟨rfl, ih⟩
  refine ⟨fun u => decide (∃ (i : Nat) (b : Addr), as[i]? = some b ∧ u = .ref b ∧ F[i]? = some x0), fun u hm => ?_, ?_⟩
  · obtain ⟨b, hb, rfl⟩ := List.mem_map.mp hm
    obtain ⟨i, hi, eb⟩ := List.mem_iff_getElem.mp hb
    obtain ⟨xs, hx, hs⟩ := key ht i b (by rw [List.getElem?_eq_getElem hi, eb])
    have e1 := AtD.eq I (A := X.A.in1) 1 (d := .t (xs.map Dt.i)) (e := .t (x0.map Dt.i)) (x := .ref b) (y := .ref a) (u := .ref b) (v := .ref a) (by rw [dep, dpi]; exact Nat.le_refl _) (by show X.A.units + 1 + 1 < cLine; omega) rfl rfl ⟨b, _, rfl, hs, ati xs⟩ ⟨a, _, rfl, ha, ati x0⟩ (lki xs x0)
    have e2 : deq (.t (xs.map Dt.i)) (.t (x0.map Dt.i)) = decide (∃ (i : Nat) (b' : Addr), as[i]? = some b' ∧ Value.ref b = .ref b' ∧ F[i]? = some x0) := by
      rw [deq, dqi, Bool.eq_iff_iff, decide_eq_true_iff, decide_eq_true_iff]
      constructor
      · rintro rfl
        exact ⟨i, b, by rw [List.getElem?_eq_getElem hi, eb], rfl, hx⟩
      · rintro ⟨j, b', h1, h2, h3⟩
        cases h2
        obtain ⟨ys, hy, hys⟩ := key ht j b h1
        rw [hy] at h3
        cases h3
        exact inj (I.tuple_inj hs hys)
    rw [e2] at e1
    exact e1
  · rw [Bool.eq_iff_iff, List.any_eq_true, decide_eq_true_iff]
    constructor
    · rintro ⟨u, _, hu2⟩
      obtain ⟨i, b, _, _, h3⟩ := of_decide_eq_true hu2
      exact List.mem_of_getElem? h3
    · intro h
      obtain ⟨i, hi, ei⟩ := List.mem_iff_getElem.mp h
      have hl : as.length = F.length := Paired.length ht
      have hi2 : i < as.length := by omega
      refine ⟨.ref as[i], List.mem_map.mpr ⟨_, List.getElem_mem hi2, rfl⟩, decide_eq_true ⟨i, as[i], List.getElem?_eq_getElem hi2, rfl, by rw [List.getElem?_eq_getElem hi, ei]⟩⟩
theorem op_inT (hu : X.A.units + 64 < cLine) : OpR X (compareOp .In) (rInT X.K false) := by
  intro pins s σ H x y v u Q I rx ry h
  obtain ⟨p, a, as, F, x0, rfl, rfl, hq, ht, ha, q⟩ := h
  cases rx
  cases ry
  obtain ⟨its, r, pl, hz⟩ := I.list hq
  obtain rfl := refs_of r
  obtain ⟨f, h1, h2⟩ := inT_core hu I hq ht ha
  refine SeqAt.in_listAt f pl.isList (fun w hw => h1 w (by simpa using hw)) ⟨.bl _, H, I, rfl, ?_⟩
  rw [show (as.map Value.ref).toArray.any f = (as.map Value.ref).any f by simp, h2]
  exact q
theorem op_inTK {K : PySem.W.Frag} (hu : X.A.units + 64 < cLine) (h : X.K = K := by rfl) : OpR X (compareOp .In) (rInT K false) := by subst h; exact op_inT hu
end
end L2

namespace Raw
open PySem PyProof.Rows
noncomputable def At (h : Heap) (d : Addr) (es : Array DictEntry) (ep : Nat) : Prop := ∃ o, h.get? d = some o ∧ o.ExactDict ∧ o.data = .dict es ep
section
variable {prog : Program} {w : World} {A : Around} {E : Value → Shared → Prop} {s : Shared} {d it : Addr} {es : Array DictEntry} {ep i : Nat}
theorem At.typeIs (x : At s.heap d es ep) : s.TypeIs (.ref d) "dict" := let ⟨o, ho, hc, _⟩ := x; ⟨o, ho, hc.1⟩
theorem At.at {h h' : Heap} (x : At h d es ep) (e : ∀ o, h.get? d = some o → h'.get? d = some o) : At h' d es ep := let ⟨o, ho, r⟩ := x; ⟨o, e o ho, r⟩
theorem iter {Q : Value → Shared → Prop} (hd : (d == sysModules) = false) (hm : At s.heap d es ep)
    (hQ : Q (.ref s.heap.objs.size) { s with heap := s.heap.push { cls := .type "dict_keyiterator", data := .fields #[.ref d, .int 0 0, .int es.size 0, .int ep 0] } }) :
    wpAny (model prog w) A (pyIter (.ref d)) Q E s := by
  obtain ⟨o, ho, hc, hdat⟩ := id hm
  have hT : s.TypeIs (.ref d) "dict" := hm.typeIs
  refine wpAny_pyIter_slot hT F.slot_dict_iter (wpAny_call_entry F.slot_dict_iter hT F.entry_dict_iter ?_ (F.args_dict_iter_1 _))
  unfold Builtin.«dict.__iter__»
  refine wpAny_bind ?_
  unfold Builtin.Dict.dictSlotNone
  refine wpAny_bind (wpAny_notOrdered_dict hT ?_)
  show wpAny _ _ (pure (Value.ref d)) _ _ s
  refine wpAny_pure ?_
  show wpAny _ _ (Builtin.Dict.showsAll d >>= _) _ _ s
  unfold Builtin.Dict.showsAll
  rw [if_neg (by rw [hd]; exact Bool.false_ne_true)]
  refine wpAny_bind (wpAny_pure ?_)
  refine wpAny_bind (wpAny_dictEntries ho hdat ?_)
  refine wpAny_bind (wpAny_dictEpoch ho hdat ?_)
  refine wpAny_bind (wpAny_newObj_type (wpAny_pure ⟨_, rfl, "dict_keyiterator", _, ⟨_, Heap.get?_push_size _ rfl, rfl⟩, F.slot_dict_keyiterator_next.lookup, ?_⟩))
  simpa [rawInt] using hQ
theorem next_item {Q : Option Value → Shared → Prop} (hit : s.heap.IsKeyIter it d i es.size ep) (hm : At s.heap d es ep) (hlt' : i < es.size)
    (hQ : ∀ h', h'.IsKeyIter it d (i + 1) es.size ep → Heap.SameBut it s.heap h' → Q (some es[i].key) { s with heap := h' }) : wpAny (model prog w) A (pyNext (.ref it)) Q E s := by
  obtain ⟨o, ho, hc, hd⟩ := id hit
  obtain ⟨od, hod, hcd, hdd⟩ := id hm
  unfold pyNext
  refine wpAny_bind (wpAny_attempt (wpAny_callSpecial?_slot (name := Str.ofString "__next__") hit.typeIs F.slot_dict_keyiterator_next
    (wpAny_call_entry F.slot_dict_keyiterator_next hit.typeIs F.entry_dict_keyiterator_next ?_ (F.args_dict_keyiterator_next_1 _))))
  refine wpAny_bind (wpAny_pure ?_)
  refine wpAny_bind ?_
  refine wpAny_bind ?_
  first | refine wpAny_bind (wpAny_typeNameOfWhole_keyiter hit.typeIs (wpAny_pure ?_)) | refine wpAny_bind (wpAny_typeNameOf_keyiter hit.typeIs (wpAny_pure ?_))
  refine wpAny_bind (wpAny_fieldsOf ho hd ?_)
  have hown : Builtin.Dict_items.ownsTuple "dict_keyiterator" = false := by decide
  simp only [hown, Bool.false_eq_true, if_false]
  show wpAny _ _ (if (Value.ref d == Value.none) = true then _ else _) _ _ s
  rw [if_neg (show ¬ ((Value.ref d == Value.none) = true) from Bool.false_ne_true)]
  refine wpAny_bind (wpAny_pure ?_)
  refine wpAny_bind (wpAny_dictEntries hod hdd ?_)
  rw [if_neg (by simp)]
  refine wpAny_bind (wpAny_pure ?_)
  refine wpAny_bind (wpAny_dictEpoch hod hdd ?_)
  rw [if_neg (by simp)]
  refine wpAny_pure ?_
  simp only [show ¬ ((i : Int) < 0) from by omega, if_false, Int.toNat_natCast, Array.getElem?_eq_getElem hlt']
  refine wpAny_bind ?_
  first | refine wpAny_bind (wpAny_typeNameOfWhole_keyiter hit.typeIs (wpAny_pure ?_)) | refine wpAny_bind (wpAny_typeNameOf_keyiter hit.typeIs (wpAny_pure ?_))
  refine wpAny_bind (wpAny_isOneOf_keyiter hit.typeIs ?_)
  show wpAny _ _ (setField (.ref it) 1 (rawInt ((i : Int) + 1)) >>= _) _ _ s
  refine wpAny_bind (wpAny_setField ho hd (by simp) ?_)
  have hit' : (s.heap.update it (Obj.mapFields (·.setIfInBounds 1 (rawInt ((i : Int) + 1))))).IsKeyIter it d (i + 1) es.size ep :=
    ⟨_, Heap.get?_update_self _ ho (Obj.isFreed_of_fields (Obj.data_mapFields hd _)), (Obj.cls_mapFields ..).trans hc, by rw [Obj.data_mapFields hd]; simp [rawInt]⟩
  refine wpAny_bind (wpAny_holding ?_)
  refine wpAny_bind (wpAny_isOneOf_keyiter (s := { s with heap := s.heap.update it (Obj.mapFields (·.setIfInBounds 1 (rawInt ((i : Int) + 1)))) }) hit'.typeIs ?_)
  show wpAny _ _ (pure es[i].key) _ _ _
  exact wpAny_pure (wpAny_pure ⟨_, rfl, wpAny_pure (hQ _ hit' (Heap.SameBut.update ..))⟩)
theorem next_end {Q : Option Value → Shared → Prop} (hh : A.handled = none) (hit : s.heap.IsKeyIter it d i es.size ep) (hm : At s.heap d es ep) (hge : es.size ≤ i)
    (hQ : ∀ h', Heap.ExtBut it s.heap h' → Q none { s with heap := h' }) : wpAny (model prog w) A (pyNext (.ref it)) Q E s := by
  obtain ⟨o, ho, hc, hd⟩ := id hit
  obtain ⟨od, hod, hcd, hdd⟩ := id hm
  unfold pyNext
  refine wpAny_bind (wpAny_attempt (wpAny_callSpecial?_slot (name := Str.ofString "__next__") hit.typeIs F.slot_dict_keyiterator_next
    (wpAny_call_entry F.slot_dict_keyiterator_next hit.typeIs F.entry_dict_keyiterator_next ?_ (F.args_dict_keyiterator_next_1 _))))
  refine wpAny_bind (wpAny_pure ?_)
  refine wpAny_bind ?_
  refine wpAny_bind ?_
  first | refine wpAny_bind (wpAny_typeNameOfWhole_keyiter hit.typeIs (wpAny_pure ?_)) | refine wpAny_bind (wpAny_typeNameOf_keyiter hit.typeIs (wpAny_pure ?_))
  refine wpAny_bind (wpAny_fieldsOf ho hd ?_)
  have hown : Builtin.Dict_items.ownsTuple "dict_keyiterator" = false := by decide
  simp only [hown, Bool.false_eq_true, if_false]
  show wpAny _ _ (if (Value.ref d == Value.none) = true then _ else _) _ _ s
  rw [if_neg (show ¬ ((Value.ref d == Value.none) = true) from Bool.false_ne_true)]
  refine wpAny_bind (wpAny_pure ?_)
  refine wpAny_bind (wpAny_dictEntries hod hdd ?_)
  rw [if_neg (by simp)]
  refine wpAny_bind (wpAny_pure ?_)
  refine wpAny_bind (wpAny_dictEpoch hod hdd ?_)
  rw [if_neg (by simp)]
  refine wpAny_pure ?_
  simp only [show ¬ ((i : Int) < 0) from by omega, if_false, Int.toNat_natCast, Array.getElem?_eq_none hge]
  refine wpAny_bind ?_
  first | refine wpAny_bind (wpAny_typeNameOfWhole_keyiter hit.typeIs (wpAny_pure ?_)) | refine wpAny_bind (wpAny_typeNameOf_keyiter hit.typeIs (wpAny_pure ?_))
  show wpAny _ _ (setField (.ref it) 0 .none >>= _) _ _ s
  refine wpAny_bind (wpAny_setField ho hd (by simp) ?_)
  show wpAny _ _ (newExc (.type "StopIteration") [] >>= _) _ _ _
  refine wpAny_bind ?_
  simp only [newExc, newTuple]
  refine wpAny_bind (wpAny_newObj_type ?_ (by size_fits))
  refine wpAny_bind (m := firstArgMember _ _) (wpAny_of_eq (a := Value.none) (by first | rfl | (simp only [firstArgMember]; rfl)) ?_)
  refine wpAny_newObj_type ?_ (by size_fits)
  simp only [raiseNew]
  refine wpAny_bind (wpAny_handled ?_)
  rw [show A.in1.handled = none from hh]
  refine wpAny_bind (wpAny_pure (wpAny_throw ?_))
  refine wpAny_bind (wpAny_isInstance (T := "StopIteration") (b := true) ⟨_, Heap.get?_push_size _ rfl, rfl⟩ isSubtype_stop ?_)
  exact wpAny_pure (hQ _ (((Heap.SameBut.update ..).extBut.push _).push _))
end
theorem walks {prog : Program} {w : World} {A : Around} (hh : A.handled = none) (I d : Addr) (hne : d ≠ I) (es : Array DictEntry) (ep : Nat) :
    Walks prog w A I [I, d] [I] es.size (fun i v => ∃ e, es[i]? = some e ∧ v = e.key) (fun i h => h.IsKeyIter I d i es.size ep ∧ At h d es ep) where
  sub := fun b hb => by simp at hb; simp [hb]
  frame := fun _ _ _ st hk => ⟨st.1.at fun o e => hk I (by simp) o e, st.2.at fun o e => hk d (by simp) o e⟩
  item := fun i s Q E hi st hQ => by
    refine next_item st.1 st.2 hi fun h' hit' hs' => ?_
    exact hQ _ h' s.toks ⟨es[i], Array.getElem?_eq_getElem hi, rfl⟩ ⟨hit', st.2.at fun o e => (hs'.2 d hne).trans e⟩ fun b o hb e => hs'.extBut b o (fun h => hb (by simp [h])) e
  done := fun s Q E st hQ => next_end hh st.1 st.2 (Nat.le_refl _) fun h' he' => hQ h' s.toks fun b o hb e => he' b o (fun h => hb (by simp [h])) e
  self := fun _ _ _ _ st hQ => wpAny_pyIter_keyiter st.1 hQ
theorem src {prog : Program} {w : World} {d : Addr} {es : Array DictEntry} {ep : Nat} (lo : (d == sysModules) = false) : PySem.W.KdlSrc prog w "dict" d d es.size (fun i v => ∃ e, es[i]? = some e ∧ v = e.key) (fun h => At h d es ep) where
  type := fun _ hm => hm.typeIs
  there := fun _ hm => let ⟨_, ho, _⟩ := hm; ⟨Heap.lt_size ho, Heap.lt_size ho⟩
  keep := fun _ _ hm hk => hm.at fun o e => hk d (.inl rfl) o e
  notList := by decide
  notTuple := by decide
  hint := fun _ _ _ _ hm hq => PySem.W.kdl_hint_dict hm.typeIs hq
  iter := fun _ _ hh hm => ⟨_, _, (fun _ _ hq => iter lo hm hq), walks hh _ d (let ⟨_, ho, _⟩ := hm; Nat.ne_of_lt (Heap.lt_size ho)) es ep, ⟨⟨_, Heap.get?_push_size _ rfl, rfl, rfl⟩, hm.at fun o e => Heap.get?_push_of_some _ e⟩⟩
end Raw
namespace L2
open PySem PySem.Spec PyProof.Rows
section
variable {X : Cx}
noncomputable def rListDT : List V → Hp → VK → Prop := fun xs H Q => ∃ d kvs, xs = [.ref d] ∧ H d = some (.dT kvs) ∧ ∀ (l : Addr) (as : List Addr), H l = none → Paired (fun a kv => H a = some (.tup ((kv : List Key × V).1.map kV))) as kvs → Q (.ref l) (upd H l (.lst (as.map V.ref)))
theorem call_listDT (hc : X.calm = true) : CallR X (.type "list") rListDT := by
  intro pins s σ H xs us Q I r h
  obtain ⟨d, kvs, rfl, hd, q⟩ := h
  obtain ⟨u, rfl, rx⟩ := r.one
  cases rx
  obtain ⟨hz, lo, ys, rel, o, es, ep, h1, h2, h3, h4, h5, h6⟩ := dt_of I.hok hd
  have hl : es.size = ys.length := by rw [← Array.length_toList, h4, List.length_map]
  refine PySem.W.kdl_call (Raw.src (ep := ep) lo) (I.ok.hd hc) ⟨o, h1, h2, h3⟩ (by rw [hl, ← Paired.length rel]; exact hz) fun h' tk acc c hk hD hacc => ?_
  have hacc2 : acc.toList = (ys.map fun y => y.2.1).map Value.ref := by
    refine List.ext_getElem (by rw [Array.length_toList, hacc.1, hl]; simp) fun i i1 i2 => ?_
    have i3 : i < ys.length := by simpa using i2
    obtain ⟨e, he, hv⟩ := hacc.2 i acc.toList[i] (by rw [← Array.getElem?_toList, List.getElem?_eq_getElem i1])
    rw [entry_at h4, List.getElem?_eq_getElem i3] at he
    have he : entryOfKey (tupleKind (mixKind X.prog X.w)) ys[i] = e := by simpa using he
    rw [hv, ← he]
    simp [entryOfKey]
  have hp : Paired (fun a kv => H a = some (.tup ((kv : List Key × V).1.map kV))) (ys.map fun y => y.2.1) kvs := by
    clear h4 h5 h6 hl hacc hacc2 q hz hd
    induction rel with
    | nil => exact .nil
    | cons r t ih => exact .cons r.2.1 ih
  have lz : (ys.map fun y => y.2.1).length ≤ sizeLine := by rw [List.length_map, ← Paired.length rel]; exact hz
  have hD' : h'.get? s.heap.objs.size = some { cls := .type "list", dict := none, data := .seq ((ys.map fun y => y.2.1).map Value.ref).toArray c, slots := #[] } := by
    rw [hD, ← hacc2, Array.toArray_toList]
  have J : Inv X pins σ (upd H s.heap.objs.size (.lst ((ys.map fun y => y.2.1).map V.ref))) { s with heap := h', toks := tk } := I.laid hk (Nat.le_refl _) ⟨by rw [List.length_map]; exact lz, _, c, vals_refs _, hD'⟩
  exact ⟨.ref s.heap.objs.size, _, J, rfl, q _ _ I.fresh hp⟩
end
end L2

namespace Tx1
open PySem PySem.Builtin PySem.Builtin.Str
noncomputable def jn (c : Nat) : List (List Nat) → List Nat
  | [] => []
  | [a] => a
  | a :: b :: r => a ++ c :: jn c (b :: r)
theorem join_cps (c : Nat) : ∀ ts : List Str, (Str.join ⟨#[c]⟩ ts).cps.toList = jn c (ts.map fun t => t.cps.toList)
  | [] => rfl
  | [a] => rfl
  | a :: b :: r => by
    show (a ++ ⟨#[c]⟩ ++ Str.join ⟨#[c]⟩ (b :: r)).cps.toList = _
    have ih := join_cps c (b :: r)
    show ((a.cps ++ #[c]) ++ (Str.join ⟨#[c]⟩ (b :: r)).cps).toList = a.cps.toList ++ c :: jn c ((b :: r).map fun t => t.cps.toList)
    rw [Array.toList_append, Array.toList_append, ih]
    simp
section
variable {prog : Program} {w : World} {A : Around} {E : Value → Shared → Prop} {s : Shared} {x y : Str} {t u : Tok} {Q : Value → Shared → Prop}
end
end Tx1
namespace L2
open PySem PySem.Spec PyProof.Rows
theorem vals_strs : ∀ {ts : List Str} {us : List Value}, Vals (ts.map V.str) us → ∃ l : List (Str × Tok), us = strValues l ∧ l.map (·.1) = ts
  | [], _, h => by cases h; exact ⟨[], rfl, rfl⟩
  | a :: ts, _, h => by
    cases h with
    | cons r q =>
      obtain ⟨t, rfl⟩ := r
      obtain ⟨l, rfl, rfl⟩ := vals_strs q
      exact ⟨(a, t) :: l, rfl, rfl⟩
section
variable {X : Cx}
noncomputable def rJoin (K : PySem.W.Frag) : V → List V → Hp → VK → Prop := fun x vs H Q => ∃ (sep : Str) (p : Addr) (ts : List Str), x = .str sep ∧ vs = [.ref p] ∧ SqL K H p (ts.map V.str) ∧ JoinOk sep ts = true ∧ Q (.str (Txt.join sep ts)) H
theorem mt_join : MtR X "str.join" (rJoin X.K) := by
  intro pins s σ H x vs v us Q I rx rv h
  obtain ⟨sep, p, ts, rfl, rfl, hq, hok, q⟩ := h
  obtain ⟨t, rfl⟩ := rx
  obtain ⟨u, rfl, ru⟩ := rv.one
  cases ru
  obtain ⟨its, r, pl, hz⟩ := I.list hq
  obtain ⟨l, rfl, hl⟩ := vals_strs r
  exact SC.join pl.isList hl hok fun t' k => ⟨.str (Txt.join sep ts), H, I.kept (fun _ _ e => e), ⟨t', rfl⟩, q⟩
end
end L2

namespace L2
open PySem PySem.Spec PyProof.Rows
section
variable {X : Cx} {K : PySem.W.Frag}
theorem mt_joinK (h : X.K = K := by rfl) : MtR X "str.join" (rJoin K) := by subst h; exact mt_join
end
end L2

namespace Exc
open PySem PyProof.Rows
noncomputable def Shift (fr ch : List Addr) (h h2 : Heap) : Prop :=
  (∀ b o, b ∉ fr → b ∉ ch → h.get? b = some o → h2.get? b = some o) ∧ (∀ b o, b ∈ fr → b ∉ ch → h.get? b = some o → ∃ sl, h2.get? b = some { o with slots := sl }) ∧ h.objs.size ≤ h2.objs.size
noncomputable def TbAt (h : Heap) (e T : Addr) (cls : Value) : Prop :=
  ∃ oe vs oT ts, h.get? e = some oe ∧ oe.cls = cls ∧ oe.dict = none ∧ oe.data = .fields vs ∧ vs[1]? = some (.ref T) ∧ T ≠ e ∧ h.get? T = some oT ∧ oT.data = .fields ts ∧ ts[3]? = some .none
theorem Shift.trans {fr c1 c2 : List Addr} {a b c : Heap} (h1 : Shift fr c1 a b) (h2 : Shift fr c2 b c) : Shift fr (c1 ++ c2) a c := by
  refine ⟨fun x o q1 q2 e => ?_, fun x o q1 q2 e => ?_, Nat.le_trans h1.2.2 h2.2.2⟩
  · exact h2.1 x o q1 (fun z => q2 (List.mem_append_right _ z)) (h1.1 x o q1 (fun z => q2 (List.mem_append_left _ z)) e)
  · obtain ⟨sl, e1⟩ := h1.2.1 x o q1 (fun z => q2 (List.mem_append_left _ z)) e
    obtain ⟨sl2, e2⟩ := h2.2.1 x _ q1 (fun z => q2 (List.mem_append_right _ z)) e1
    exact ⟨sl2, e2⟩
theorem dict_mapFields (f : Array Value → Array Value) (o : Obj) : (Obj.mapFields f o).dict = o.dict := by
  unfold Obj.mapFields; split <;> rfl
section
variable {M : Model} {A : Around} {E : Value → Shared → Prop} {s : Shared}
theorem entry {base : Heap} {env : Env} {outer : List Env} {L e : Addr} {oe : Obj} {vs : Array Value} {head : Value} {more : Bool} {Q : Unit → Shared → Prop} (hfr : A.frames = some (env :: outer)) (hl : s.heap.FunFrames base (env :: outer)) (hf : env.frame = some L)
    (he : s.heap.get? e = some oe) (hdi : oe.dict = none) (hd : oe.data = .fields vs) (hsz : 1 < vs.size)
    (h : ∀ h2, Shift ((env :: outer).filterMap (·.frame)) [e] s.heap h2 → TbAt h2 e s.heap.objs.size oe.cls → Q () { s with heap := h2 }) :
    wpAny M A (do let a ← frameOf env; let pl ← entryPlaceOf L more; let b ← EntryCells.newEntry head a .none (rawInt L) .none pl; setField (.ref e) 1 b) (fun _ s' => wpAny M A (setFlight (.ref e) none) Q E s') E s := by
  have k0 : e ∉ (env :: outer).filterMap (·.frame) := fun hm => by
    obtain ⟨_, o, ho, hnf⟩ := hl.mem hm
    rw [he] at ho; injection ho with ho; subst ho; exact hnf vs hd
  refine wpAny_bind (wpAny_frameOf_fun hfr hl hf fun h1 q1 => ?_)
  refine wpAny_bind (wpAny_entryPlaceOf fun pl hpl => ?_)
  unfold EntryCells.newEntry newFields
  refine wpAny_bind (wpAny_newObj_type ?_ (hpl.sizeOk5 _ _ _ _ _))
  have k1 : h1.get? e = some oe := (q1.2.1 e k0).trans he
  have ksz : h1.objs.size = s.heap.objs.size := q1.1
  generalize ht : ({ cls := .type "traceback", dict := none, data := .fields ([head, .ref L, .none, rawInt L, .none] ++ (if pl.isEmpty then List.replicate 6 Value.none else pl)).toArray } : Obj) = tb
  have htd : tb.data = .fields ([head, .ref L, .none, rawInt L, .none] ++ (if pl.isEmpty then List.replicate 6 Value.none else pl)).toArray := by rw [← ht]
  have k2 := Heap.get?_push_of_some (h := h1) tb k1
  have kT0 : (h1.push tb).get? h1.objs.size = some tb := Heap.get?_push_size h1 (by rw [← ht]; rfl)
  refine wpAny_setField k2 hd hsz ?_
  have k3 : h1.objs.size ≠ e := Nat.ne_of_gt (Heap.lt_size k1)
  have k4 := Obj.data_mapFields hd (·.setIfInBounds 1 (Value.ref h1.objs.size))
  have k5 := Heap.get?_update_self (Obj.mapFields (·.setIfInBounds 1 (Value.ref h1.objs.size))) k2 (Obj.isFreed_of_fields k4)
  have k6 := (Heap.get?_update_other (h1.push tb) (Obj.mapFields (·.setIfInBounds 1 (Value.ref h1.objs.size))) (Ne.symm k3)).trans kT0
  unfold setFlight
  refine wpAny_bind (wpAny_field k5 k4 (x := .ref h1.objs.size) (by simp [hsz]) ?_)
  rw [if_pos (show (Value.ref h1.objs.size != Value.none) = true from by simp)]
  refine wpAny_setField k6 htd (by simp only [List.size_toArray, List.length_append, List.length_cons, List.length_nil] <;> omega) ?_
  have keep : ∀ b o, b ≠ e → h1.get? b = some o → (((h1.push tb).update e (Obj.mapFields (·.setIfInBounds 1 (Value.ref h1.objs.size)))).update h1.objs.size (Obj.mapFields (·.setIfInBounds 3 ((none : Option Addr).elim Value.none fun f => rawInt f)))).get? b = some o := fun b o hbe hb => by
    have hbT : h1.objs.size ≠ b := Nat.ne_of_gt (Heap.lt_size hb)
    rw [Heap.get?_update_other _ _ hbT, Heap.get?_update_other _ _ (Ne.symm hbe)]
    exact Heap.get?_push_of_some _ hb
  refine h _ ⟨fun b o hb hc q => ?_, fun b o hb hc q => ?_, ?_⟩ ?_
  · exact keep b o (fun z => hc (by simp [z])) ((q1.2.1 b hb).trans q)
  · obtain ⟨sl, q2⟩ := q1.2.2 b o q
    exact ⟨sl, keep b _ (fun z => hc (by simp [z])) q2⟩
  · rw [Heap.size_update, Heap.size_update, Heap.size_push, ksz]; exact Nat.le_succ _
  · rw [ksz] at k3 k4 k5 k6 ⊢
    refine ⟨_, _, _, _, (Heap.get?_update_other _ _ k3).trans k5, Obj.cls_mapFields _ _, (dict_mapFields _ _).trans hdi, k4, by simp [hsz], k3, Heap.get?_update_self _ k6 (Obj.isFreed_of_fields (Obj.data_mapFields htd _)), Obj.data_mapFields htd _, ?_⟩
    first | (simp; done) | (rcases hpl with rfl | ⟨_, _, _, _, _, _, _, rfl⟩ <;> simp)
end
end Exc

namespace Exc
open PySem PyProof.Rows
section
variable {M : Model} {A : Around} {E : Value → Shared → Prop} {s : Shared}
theorem note_first {base : Heap} {env : Env} {outer : List Env} {L e : Addr} {oe : Obj} {vs : Array Value} {Q : Unit → Shared → Prop} (hfr : A.frames = some (env :: outer)) (hl : s.heap.FunFrames base (env :: outer)) (hf : env.frame = some L)
    (he : s.heap.get? e = some oe) (hdi : oe.dict = none) (hd : oe.data = .fields vs) (h1 : vs[1]? = some .none)
    (h : ∀ h2, Shift ((env :: outer).filterMap (·.frame)) [e] s.heap h2 → TbAt h2 e s.heap.objs.size oe.cls → Q () { s with heap := h2 }) :
    wpAny M A (noteFrame (.ref e) env) (fun _ s' => wpAny M A (setFlight (.ref e) none) Q E s') E s := by
  unfold noteFrame
  simp only [hf]
  refine wpAny_bind (wpAny_field he hd h1 ?_)
  rw [if_neg (by decide)]
  exact entry hfr hl hf he hdi hd (Array.getElem?_eq_some_iff.mp h1).1 h
theorem note_next {base : Heap} {env : Env} {outer : List Env} {L e T : Addr} {cls : Value} {Q : Unit → Shared → Prop} (hfr : A.frames = some (env :: outer)) (hl : s.heap.FunFrames base (env :: outer)) (hf : env.frame = some L) (ht : TbAt s.heap e T cls)
    (h : ∀ h2, Shift ((env :: outer).filterMap (·.frame)) [T, e] s.heap h2 → TbAt h2 e s.heap.objs.size cls → Q () { s with heap := h2 }) :
    wpAny M A (noteFrame (.ref e) env) (fun _ s' => wpAny M A (setFlight (.ref e) none) Q E s') E s := by
  obtain ⟨oe, vs, oT, ts, he, hcls, hdi, hd, h1, hTe, hT, hdT, h3⟩ := ht
  subst hcls
  unfold noteFrame
  simp only [hf]
  refine wpAny_bind (wpAny_field he hd h1 ?_)
  rw [if_pos (show (Value.ref T != Value.none) = true from by simp)]
  refine wpAny_bind (wpAny_field hT hdT h3 ?_)
  rw [if_neg (show ¬ ((Value.none == rawInt L) = true) from by simp [rawInt])]
  refine wpAny_bind (wpAny_setField hT hdT (Array.getElem?_eq_some_iff.mp h3).1 ?_)
  have other : ∀ b, b ≠ T → (s.heap.update T (Obj.mapFields (·.setIfInBounds 3 Value.none))).get? b = s.heap.get? b := fun b hb => Heap.get?_update_other _ _ (Ne.symm hb)
  have norec : ∀ b o, s.heap.get? b = some o → (∀ vs, o.data ≠ .fields vs) → b ≠ T := fun b o hb hnf q => by
    rw [q, hT] at hb; injection hb with hb; subst hb; exact hnf ts hdT
  have hz : (s.heap.update T (Obj.mapFields (·.setIfInBounds 3 Value.none))).objs.size = s.heap.objs.size := Heap.size_update ..
  refine entry (s := { s with heap := s.heap.update T (Obj.mapFields (·.setIfInBounds 3 Value.none)) }) hfr (hl.of_keeps fun b o hb hnf => ⟨o, (other b (norec b o hb hnf)).trans hb, rfl⟩) hf ((other e (Ne.symm hTe)).trans he) hdi hd (Array.getElem?_eq_some_iff.mp h1).1 fun h2 q1 q2 => ?_
  refine h h2 ⟨fun b o hb hc q => ?_, fun b o hb hc q => ?_, ?_⟩ ?_
  · exact q1.1 b o hb (fun z => hc (List.mem_cons_of_mem _ z)) ((other b fun z => hc (by simp [z])).trans q)
  · exact q1.2.1 b o hb (fun z => hc (List.mem_cons_of_mem _ z)) ((other b fun z => hc (by simp [z])).trans q)
  · have := q1.2.2; rw [hz] at this; exact this
  · rw [← hz]; exact q2
end
end Exc

namespace L2
open PySem PySem.Spec PyProof.Rows Exc
theorem ObjOk.there {P : Program} {w : World} {H : Hp} {h : Heap} {a : Addr} {o : HO} (x : ObjOk P w H h a o) : ∃ u, h.get? a = some u := by
  cases o with
  | lst xs => obtain ⟨_, _, _, _, e⟩ := x; exact ⟨_, e⟩
  | tup xs => obtain ⟨_, _, _, o, e, _⟩ := x; exact ⟨_, e⟩
  | dK kvs => obtain ⟨_, _, _, _, o, _, _, e, _⟩ := x; exact ⟨_, e⟩
  | dT kvs => obtain ⟨_, _, _, _, o, _, _, e, _⟩ := x; exact ⟨_, e⟩
  | set S n => obtain ⟨o, _, _, _, e, _⟩ := x; exact ⟨_, e⟩
  | ins C dx fs => obtain ⟨_, _, _, e, _⟩ := x; exact ⟨_, e⟩
  | own y => exact x
  | xd fs => obtain ⟨_, ⟨_, _, _, e, _⟩, _⟩ := x; exact ⟨_, e⟩
  | rng lo hi => obtain ⟨_, _, _, e⟩ := x; exact ⟨_, e⟩
  | frz ob u => obtain ⟨e, _⟩ := x; exact ⟨_, e⟩
  | tbl ps => exact ⟨_, (show h.get? a = some _ from x)⟩
  | met f y => exact ⟨_, (show h.get? a = some _ from x)⟩
  | ext φ => exact x.2.1
theorem HOk.none_of {P : Program} {w : World} {H : Hp} {h : Heap} {a : Addr} (x : HOk P w H h) (e : h.get? a = none) : H a = none := by
  cases q : H a with
  | none => rfl
  | some o => obtain ⟨u, z⟩ := (x a o q).there; rw [e] at z; cases z
theorem HOk.shift {P : Program} {w : World} {H : Hp} {h h2 : Heap} {fr ch : List Addr} (x : HOk P w H h) (sh : Shift fr ch h h2) (hf : ∀ b ∈ fr, H b = none) (hc : ∀ b ∈ ch, H b = none) : HOk P w H h2 := fun a o e =>
  (x a o e).stay (fun b u hb q => by
    have hb' : ∃ v, H b = some v := by
      rcases hb with z | z
      · exact ⟨o, z ▸ e⟩
      · exact ⟨_, z⟩
    obtain ⟨v, hv⟩ := hb'
    exact sh.1 b u (fun z => by rw [hf b z] at hv; cases hv) (fun z => by rw [hc b z] at hv; cases hv) q) (fun _ q => q) fun _ _ q => q
noncomputable def CX1 (P : Program) (w : World) : CXT := fun outer H s E e s' => ∃ (ea T : Addr) (cls : Value) (H' : Hp), e = .ref ea ∧ s'.os = s.os ∧ AllBare s'.gens ∧ Un (frs outer) [] H H' s.heap s'.heap ∧ HOk P w H' s'.heap ∧
  TbAt s'.heap ea T cls ∧ s.heap.get? ea = none ∧ s.heap.get? T = none ∧ H' ea = none ∧ H' T = none ∧ E cls none H'
structure XCls (K : PySem.W.Frag) (C : Addr) (bmB : List Value) (newId : String) : Prop where
  obj : ∃ bm N nm q bs hdct sn sub ab col dd k0 k1 k2 k3 k5 mN, ∀ h : Heap, K.In h → h.get? C = some (excClassObj nm q C N bs bm hdct sn sub ab col dd k0 k1 k2 k3 k5 newId) ∧ h.Ns N mN ∧ mN "__init__" = none ∧ OwnTail h bmB bm
section
variable {P : Program} {w : World} {K : PySem.W.Frag} {mg : Str → Option Value} {base : Heap} {N : List Str} {qual : Str} {scope : Scope} {f C : Addr} {cd : Value} {A : Around} {outer : List Env} {s0 : Shared} {H0 : Hp} {E : XK} {x : Str} {np cpos pos : Pos} {e : Expr} {te : TE}
noncomputable def tRaise (C : Addr) (E : XK) (te : TE) : TS := fun _ σ H => te σ H fun _ H1 => E (.ref C) none H1
theorem ps_raise (xc : XCls K C [.type "ValueError", .type "Exception", .type "BaseException", .type "object"] "ValueError.__new__") (hm : mg x = some (.ref C)) (hg : Gl (cxOf (CX1 P w) P w K mg base N qual scope f cd A outer s0 H0 E) x)
    (he : PE (cxOf (CX1 P w) P w K mg base N qual scope f cd A outer s0 H0 E) e te) (hdb : (x == ("__debug__" : Str)) = false := by decide)
    (hst : starEach [e] (cxOf (CX1 P w) P w K mg base N qual scope f cd A outer s0 H0 E).env = [(false, eval e (cxOf (CX1 P w) P w K mg base N qual scope f cd A outer s0 H0 E).env)] := by rfl) :
    PS (cxOf (CX1 P w) P w K mg base N qual scope f cd A outer s0 H0 E) (.Raise (some (.Call (.Name x np) [e] [] cpos)) none pos) (tRaise C E te) := by
  intro pins s σ H D I h
  obtain ⟨bm, Nn, nm, q, bs, hdct, sn, sub, ab, col, dd, k0, k1, k2, k3, k5, mN, hC⟩ := xc.obj
  have hC0 := hC s.heap I.kIn
  refine wpAny_Raise_call_subU (C := C) (nm := nm) (q := q) (N := Nn) (bs := bs) (bm := bm) (hdct := hdct) (sn := sn) (sub := sub) (ab := ab) (col := col) (dd := dd) (k0 := k0) (k1 := k1) (k2 := k2) (k3 := k3) (k5 := k5)
    PySem.F.excBase_ValueError (by decide) PySem.F.excBase_ValueError (mN := mN) (hC0.2.2.2.hasType (by decide)) (I.ok.hd rfl) (by rw [hst]; rfl) hC0.2.2.1 (ld_glob I hg hm ⟨rfl, ?_⟩ hdb)
  have pa : PA (cxOf (CX1 P w) P w K mg base N qual scope f cd A outer s0 H0 E) [e] (tCons te tNil) := pa_cons he pa_nil hst
  have hst2 : backTo cpos (starEach [e] (cxOf (CX1 P w) P w K mg base N qual scope f cd A outer s0 H0 E).env) = [(false, eval e (cxOf (CX1 P w) P w K mg base N qual scope f cd A outer s0 H0 E).env)] := by rw [hst]; rfl
  rw [hst2]
  refine Calls.evalArgs_plain ?_
  rw [← hst2]
  refine thn (pa cpos pins s σ H (fun vs H1 => vs.length ≤ 1 ∧ E (.ref C) none H1) I ?_) fun us s1 ⟨vs, H1, I1, r1, hv, q1⟩ => ?_
  · have mono : te σ H (fun _ H1 => E (.ref C) none H1) := h
    show te σ H fun x H1 => [x].length ≤ 1 ∧ E (.ref C) none H1
    have e0 : (fun (x : V) (H1 : Hp) => [x].length ≤ 1 ∧ E (.ref C) none H1) = fun _ H1 => E (.ref C) none H1 := by
      funext x H1
      exact propext ⟨fun z => z.2, fun z => ⟨Nat.le_refl _, z⟩⟩
    rw [e0]; exact mono
  have hC1 := hC s1.heap I1.kIn
  refine ⟨rfl, by show us.length ≤ sizeLine; rw [← r1.length]; exact Nat.le_trans hv (by decide), hC1.1, hC1.2.1, hC1.2.2.2, fun h2 ea hx => ?_⟩
  obtain ⟨t, ht, _, _⟩ := hx.there
  have I2 : Inv (cxOf (CX1 P w) P w K mg base N qual scope f cd A outer s0 H0 E) pins σ H1 { s1 with heap := h2 } := I1.kept (t' := s1.toks) hx.keeps
  have hea : H1 ea = none := I1.hok.none_of hx.new
  show wpAny (model P w) (A.deeper (envOfC qual scope s0.heap.objs.size f cd)) (leaving (envOfC qual scope s0.heap.objs.size f cd) (.ref ea)) _ _ _
  unfold leaving
  refine wpAny_bind (note_first (s := { s1 with heap := h2 }) I2.ok.frames I2.stack rfl ht rfl rfl rfl fun h3 sh tb => ?_)
  have frn : ∀ b ∈ frs (envOfC qual scope s0.heap.objs.size f cd :: outer), H1 b = none := I2.stkFree
  have hT1 : H1 h2.objs.size = none := I2.hok.fresh (Nat.le_refl _)
  have gone : ∀ b : Addr, s1.heap.get? b = none → s0.heap.get? b = none := fun b z => by
    cases q : s0.heap.get? b with
    | none => rfl
    | some o => obtain ⟨o2, z2⟩ := I1.base.there b o q (by show b ∉ ([] : List Addr); simp); rw [z] at z2; cases z2
  have hlt : ∀ b o, s0.heap.get? b = some o → b ≠ s0.heap.objs.size := fun b o q => Nat.ne_of_lt (Heap.lt_size q)
  have hne : ∀ b o, s0.heap.get? b = some o → b ∉ [ea] := fun b o q z => by
    rw [List.mem_singleton.mp z, gone ea hx.new] at q; cases q
  refine ⟨ea, h2.objs.size, .ref C, H1, rfl, I2.os, I2.bare, ⟨fun b o q n hb _ => ?_, fun b o q n hb _ => ?_, fun b o q n _ => I2.base.free b o q n (by show b ∉ ([] : List Addr); simp), fun b o q _ => ?_, I2.base.tups, I2.base.frzs, I2.base.tbls⟩, I2.hok.shift sh frn (fun b hb => by rw [List.mem_singleton.mp hb]; exact hea), tb, gone ea hx.new, ?_, hea, hT1, q1⟩
  · refine sh.1 b o ?_ (hne b o q) (I2.base.keep b o q n hb (by show b ∉ ([] : List Addr); simp))
    intro z
    rcases List.mem_cons.mp z with z | z
    · exact hlt b o q z
    · exact hb z
  · obtain ⟨sl, q2⟩ := I2.base.slot b o q n hb (by show b ∉ ([] : List Addr); simp)
    obtain ⟨sl2, q3⟩ := sh.2.1 b _ (List.mem_cons_of_mem _ hb) (hne b o q) q2
    exact ⟨sl2, q3⟩
  · obtain ⟨o2, q2⟩ := I2.base.there b o q (by show b ∉ ([] : List Addr); simp)
    by_cases z : b ∈ frs (envOfC qual scope s0.heap.objs.size f cd :: outer)
    · obtain ⟨sl, q3⟩ := sh.2.1 b _ z (hne b o q) q2
      exact ⟨_, q3⟩
    · exact ⟨_, sh.1 b _ z (hne b o q) q2⟩
  · refine gone _ ?_
    cases z : s1.heap.get? h2.objs.size with
    | none => rfl
    | some o => exact absurd (Heap.lt_size (hx.keeps _ _ z)) (Nat.lt_irrefl _)
end
end L2

namespace L2
open PySem PySem.Spec PyProof.Rows Exc
noncomputable abbrev Cx.re (X : Cx) (A : Around) : Cx := { X with A := A, calm := false, xe := fun _ _ => False }
section
variable {X : Cx} {pins : List (Addr × Obj)} {σ : St} {H : Hp} {s : Shared} {A : Around}
theorem Inv.re (I : Inv X pins σ H s) (hf : A.frames = X.A.frames) : Inv (X.re A) pins σ H s :=
  ⟨⟨I.ok.mod, I.ok.kind, I.ok.glob, I.ok.blt, I.ok.above, I.ok.inj, I.ok.has, I.ok.cab, (fun z => nomatch z), hf.trans I.ok.frames, I.ok.stk, I.ok.exf, I.ok.bs, I.ok.bsz, I.ok.noex, I.ok.exfs, I.ok.funs, I.ok.frf⟩, I.os, I.bare, I.base, I.loc, I.cell, I.free, I.freeC, I.pin, I.hok, I.len⟩
theorem Inv.unre (I : Inv (X.re A) pins σ H s) (ok : X.Ok) : Inv X pins σ H s := ⟨ok, I.os, I.bare, I.base, I.loc, I.cell, I.free, I.freeC, I.pin, I.hok, I.len⟩
end
structure RoomH (k : Nat) (A : Around) : Prop where
  dp : A.depth + 3 * k + 5 < recursionLimit
  un : A.units + 16 * k + 200 < cLine
theorem Room.h {k : Nat} {A : Around} (r : Room k A) : RoomH k A := ⟨r.dp, r.un⟩
theorem RoomH.mono {j k : Nat} {A : Around} (r : RoomH k A) (h : j ≤ k) : RoomH j A := ⟨by have := r.dp; omega, by have := r.un; omega⟩
theorem RoomH.deeper {k : Nat} {A : Around} (r : RoomH (k + 1) A) (env : Env) : RoomH k (A.deeper env) :=
  ⟨by have := r.dp; show A.depth + 1 + 3 * k + 5 < _; omega, by have := r.un; show A.units + 3 + 16 * k + 200 < _; omega⟩
structure FnOkH (P : Program) (w : World) (K : PySem.W.Frag) (mg : Str → Option Value) (base : Heap) (k : Nat) (f : Addr) (fd : FuncData) (ps : List Str) (sp : Sp) : Prop where
  len : ∀ vs H Q E, sp vs H Q E → vs.length = ps.length
  run : ∀ (A : Around) (outer : List Env) (s : Shared) (H : Hp) (args : Args) (us : List Value) (vs : List V) (Q : VK) (E : XK), RoomH k A → Env0 P w K mg base A outer s H → BindsTo s fd args (ps.zip us) → Vals vs us → sp vs H Q E →
    codeAny (model P w) A (.call (.ref f) args) (CR CX0 outer P w H s Q E) s
section
variable {P : Program} {w : World} {K : PySem.W.Frag} {mg : Str → Option Value} {base : Heap}
theorem Fun.okH {x qual : Str} {st : Stmt} {f : Addr} {fd : FuncData} {N ps : List Str} {k : Nat} {sp : Sp} (F : Fun K x qual st f fd) (S : FnScope N ps (defScope st)) (len : ∀ vs H Q E, sp vs H Q E → vs.length = ps.length)
    (hbody : ∀ (cdv : Value) (A : Around) (outer : List Env) (s : Shared) (H : Hp) (vs : List V) (Q : VK) (E : XK), RoomH k (A.deeper (envOfC qual (defScope st) s.heap.objs.size f cdv)) → sp vs H Q E →
      ∃ t, PSs ((cxOf CX0 P w K mg base N qual (defScope st) f cdv A outer s H E).re (A.deeper (envOfC qual (defScope st) s.heap.objs.size f cdv))) (defBody st) t ∧ t { nx := fun _ H' => Q .non H', rt := Q } (start N vs) H) : FnOkH P w K mg base (k + 1) f fd ps sp := by
  obtain ⟨oc, od, kV, doc, pm, an, cdv, ct, osl, rfl, lk, hcd⟩ := F.ex
  refine ⟨len, fun A outer s H args us vs Q E hr e0 hb r hsp => ?_⟩
  have hl := len _ _ _ _ hsp
  have KX : K.In s.heap := e0.mod.kin.keeps fun b o e => (e0.bs b o e).1
  have lim : s.heap.NoLimit := e0.mod.nolimit.keeps fun b o e => (e0.bs b o e).1
  have hkind : ∀ y ∈ ps.zip us, (defScope st).names.lookup y.1 = some .local ∨ ((defScope st).names.lookup y.1 = some .cell ∧ ((cellsFrom (s.heap.objs.size + 1) (defScope st).names []).lookup y.1).isSome = true) := fun ⟨n, v⟩ hy => by
    rcases S.par n (List.of_mem_zip hy).1 with q | q
    · exact .inl q
    · exact .inr ⟨q, PySem.W.cellsFrom_some _ _ _ (.inl q)⟩
  refine codeAny_call_function (by have := hr.dp; omega) (KX _ _ lk) rfl S.co S.gen rfl (PySem.W.codeRec_of KX hcd) (hb _ _ _ _ ?_)
  refine wpAny_newFunctionEnv_cells S.kind hkind fun env he s1 x => ?_
  subst he
  refine ⟨lim.keeps x.toInCall.keep, codeAny_func ?_⟩
  obtain ⟨t, ht, hq⟩ := hbody cdv A outer s H vs Q E (hr.deeper _) hsp
  have e1 : Env0 P w K mg base { A with handled := none } outer s H := ⟨e0.frames, e0.mod, e0.bs, e0.bsz, e0.funs, e0.frf, e0.hok, e0.bare⟩
  have I0 : Inv (cxOf CX0 P w K mg base N qual (defScope st) f cdv { A with handled := none } outer s H E) [] (start N vs) H s1 := inv_start S rfl e1 hl r x
  have I : Inv ((cxOf CX0 P w K mg base N qual (defScope st) f cdv A outer s H E).re (A.deeper (envOfC qual (defScope st) s.heap.objs.size f cdv))) [] (start N vs) H s1 := I0.re (A := A.deeper (envOfC qual (defScope st) s.heap.objs.size f cdv)) rfl
  refine wpAny_mono (ht [] s1 (start N vs) H _ I hq) (fun fl s' hs => ?_) fun e s' hs => hs.elim
  have fin : ∀ {σ' : St} {H' : Hp} {v : V} {u : Value}, Inv ((cxOf CX0 P w K mg base N qual (defScope st) f cdv A outer s H E).re (A.deeper (envOfC qual (defScope st) s.heap.objs.size f cdv))) [] σ' H' s' → RelV v u → Q v H' → CE outer P w H s Q u s' :=
    fun {σ' H' v u} J rv q => ⟨v, H', J.os, J.bare, J.base, J.hok, rv, q⟩
  cases fl with
  | ret u =>
    obtain ⟨v, σ', H', J, rv, q⟩ := hs
    exact fin J rv q
  | next =>
    obtain ⟨σ', H', J, q⟩ := hs
    exact fin (v := V.non) (u := Value.none) J rfl q
  | brk =>
    obtain ⟨_, _, _, q⟩ := hs
    exact False.elim q
  | cont =>
    obtain ⟨_, _, _, q⟩ := hs
    exact False.elim q
theorem Fun.okX {x qual : Str} {st : Stmt} {f : Addr} {fd : FuncData} {N ps : List Str} {k : Nat} {sp : Sp} (F : Fun K x qual st f fd) (S : FnScope N ps (defScope st)) (len : ∀ vs H Q E, sp vs H Q E → vs.length = ps.length)
    (hbody : ∀ (cdv : Value) (A : Around) (outer : List Env) (s : Shared) (H : Hp) (vs : List V) (Q : VK) (E : XK), Room k (A.deeper (envOfC qual (defScope st) s.heap.objs.size f cdv)) → sp vs H Q E →
      ∃ t, PSs (cxOf (CX1 P w) P w K mg base N qual (defScope st) f cdv A outer s H E) (defBody st) t ∧ t { nx := fun _ H' => Q .non H', rt := Q } (start N vs) H) : FnOk P w K mg base (CX1 P w) (k + 1) f fd ps sp := by
  obtain ⟨oc, od, kV, doc, pm, an, cdv, ct, osl, rfl, lk, hcd⟩ := F.ex
  exact fn_of lk hcd S len fun A outer s H vs Q E hr hsp => hbody cdv A outer s H vs Q E hr hsp
end
noncomputable def CalX (P : Program) (w : World) (K : PySem.W.Frag) (mg : Str → Option Value) (base : Heap) (x : Str) (k : Nat) (sp : Sp) : Prop :=
  ∃ f fd ps, mg x = some (.ref f) ∧ FnOk P w K mg base (CX1 P w) k f fd ps sp ∧ PySem.W.keepIn K (.ref f) = true ∧ Binds K fd ps []
noncomputable def CalH (P : Program) (w : World) (K : PySem.W.Frag) (mg : Str → Option Value) (base : Heap) (x : Str) (k : Nat) (sp : Sp) : Prop :=
  ∃ f fd ps, mg x = some (.ref f) ∧ FnOkH P w K mg base k f fd ps sp ∧ PySem.W.keepIn K (.ref f) = true ∧ Binds K fd ps []
section
variable {X : Cx} {k : Nat} {x : Str} {sp : Sp} {p pos : Pos} {e : Expr} {es : List Expr} {t : TA}
theorem pe_calH (c : CalH X.prog X.w X.K X.mg X.base x k sp) (hr : RoomH k X.A) (hg : Gl X x) (ha : PA X (e :: es) t) (hdb : (x == ("__debug__" : Str)) = false := by decide)
    (he : starEach (e :: es) X.env = (false, eval e X.env) :: starEach es X.env := by rfl) (hpl : (backTo pos (starEach es X.env)).any (·.1) = false := by rfl) : PE X (.Call (.Name x p) (e :: es) [] pos) (tCall sp [] E0 t) := by
  obtain ⟨f, fd, ps, hm, F, hk, hb⟩ := c
  intro pins s σ H Q I h
  refine wpAny_Call_Name_kw (ld_glob I hg hm ?_ hdb)
  refine PySem.W.callWith_K (h₀ := X.base) I.ok.mod.kin hk (thn (ha pos pins s σ H _ I h) fun us s1 ⟨vs, H1, I1, r, q⟩ => ⟨I1.kIn, ?_⟩) he hpl
  have hl : (us ++ []).length = ps.length := by rw [List.append_nil, ← r.length]; have := F.len _ _ _ _ q; simpa using this
  refine wpAny_call (codeAny_mono (F.run X.A X.stack s1 H1 ⟨us, []⟩ (us ++ []) (vs ++ []) Q E0 hr I1.env0 (hb s1 us I1.kIn hl) (by simpa using r) q) fun r s' hq => ?_)
  cases r with
  | error e => exact hq.elim
  | ok fl =>
    cases fl with
    | ret u => exact I1.after hq
    | next => exact False.elim hq
    | brk => exact False.elim hq
    | cont => exact False.elim hq
end
end L2

namespace Exc
open PySem PySem.Spec PyProof.Rows PySem.W
section
variable {prog : Program} {w : World} {A : Around} {E : Value → Shared → Prop} {s : Shared} {K : Frag} {x C : Addr} {ox : Obj}
structure XK1 (K : Frag) (C : Addr) : Prop where
  cls : (clsIn K C).isSome = true
  ga : findIn K (.ref C) "__getattribute__" = some (some (.builtin "BaseException.__getattribute__"))
  gt : findIn K (.ref C) "__getattr__" = some none
  cl : findIn K (.ref C) "__class__" = some (some (.builtin "object.__class__"))
  sp : specialIn K (.builtin "object.__class__") "__get__" = some (some (.builtin "getset_descriptor.__get__"))
  tk : takesIn K (.builtin "object.__class__") = some true
  mo : mroIn K C (.type "object") = some true
  mb : mroIn K C (.type "BaseException") = some true
theorem findNo {a g : Value} {name : Str} (hc : (clsIn K C).isSome = true) (ha : findIn K (.ref C) name = some (some a)) (hg : specialIn K a "__get__" = some (some g)) (ht : takesIn K a = some true) : findObj K C none name = some (.bind g a) := by
  obtain ⟨cd, hc⟩ := Option.isSome_iff_exists.mp hc
  unfold findObj
  rw [hc, Option.bind_some, ha, Option.bind_some]
  simp [hg, ht]
theorem ga_bind (v : Value) : bindSpecial (.builtin "BaseException.__getattribute__") v = pure (.builtin "BaseException.__getattribute__", [v]) := by
  first | rfl | kernel_rfl | exact (PySem.F.slot_ValueError_getattribute).bind v
theorem exc_class {Q : Option Value → Shared → Prop} (c : XK1 K C) (X : K.In s.heap) (I : InstAt s.heap x ox C none) (h : Q (some (.ref C)) { s with toks := s.toks + 1 }) : wpAny (model prog w) A (getAttr? (.ref x) "__class__") Q E s := by
  obtain ⟨hh, g, d, t, os⟩ := s
  have L0 := I.type (M := model prog w)
  have L1 := looks_findIn (M := model prog w) X c.ga
  have L2 := looks_findIn (M := model prog w) X c.gt
  have L3 := looks_find (M := model prog w) X I (findNo c.cls c.cl c.sp c.tk)
  have L4 := looks_mroIn (M := model prog w) X c.mb
  unfold getAttr? getAttrBy? getAttrBy
  refine wpAny_bind (wpAny_mkText (wpAny_bind (wpAny_attempt (wpAny_holding (wpAny_bind (L0.at (wpAny_bind (L1.at ?_))))))))
  have hx2 : (Value.builtin "BaseException.__getattribute__" == Value.builtin "object.__getattribute__") = false := by decide +kernel
  dsimp only
  rw [if_neg (by rw [hx2]; simp)]
  unfold getAttrByItsOwn hookBefore
  rw [if_pos (show onTheHeap (Value.ref C) = true from rfl)]
  refine wpAny_bind (L2.at (wpAny_bind (wpAny_attempt (wpAny_holding ?_))))
  unfold callGetattribute boundAndCalled
  rw [if_neg (by simp)]
  rw [ga_bind]
  refine wpAny_bind (wpAny_pure ?_)
  show wpAny (model prog w) A (call (.builtin "BaseException.__getattribute__") [.ref x, .str "__class__" t]) _ _ _
  have hpl : plainId "BaseException.__getattribute__" = true := by decide +kernel
  refine wpAny_call (codeAny_call_builtin hpl PySem.F.entry_bexc_ga ?_)
  have hk : builtinKind "BaseException.__getattribute__" = some .slot := by decide +kernel
  have hsplit : splitId "BaseException.__getattribute__" = some ("BaseException", "__getattribute__") := by decide +kernel
  have ha := PySem.F.args_bexc_ga (.ref x) (.str "__class__" t)
  simp only [checkBuiltinCall, hk, hsplit]
  unfold isInstance
  refine wpAny_bind (wpAny_bind (L0.at (L4.at ?_)))
  rw [if_neg (by decide)]
  have hsg : (match Manifest.signature? "BaseException.__getattribute__" with
      | some sig => Bind.checkArgs "BaseException.__getattribute__" sig { pos := [Value.ref x, Value.str (Str.ofString "__class__") t] }
      | x => pure ()) = pure () := by
    unfold argsOk at ha
    split
    · rename_i sig q
      rw [q] at ha
      exact ha
    · rfl
  refine wpAny_of_eq hsg ?_
  unfold Builtin.«object.__getattribute__»
  refine wpAny_bind (wpAny_of_eq (a := (Value.ref x, [Value.str (Str.ofString "__class__") t])) rfl ?_)
  dsimp only
  refine wpAny_bind (wpAny_of_eq (a := (Str.ofString "__class__")) rfl ?_)
  refine wpAny_bind (L0.at (wpAny_bind (L3.at ?_)))
  dsimp only
  unfold Builtin.ObjectAttr.bindTo
  dsimp only
  exact wpAny_bind (wpAny_holding (wpAny_call (class_get (s := ⟨hh, g, d, t + 1, os⟩) (ox := ox) (od := none) X I c.mo (wpAny_pure (handed_on rfl (wpAny_pure h))))))
theorem kitx_exc (c : XK1 K C) : KitX K (.ref x) (.ref C) (fun h => ∃ ox, InstAt h x ox C none) where
  ty := fun _ _ _ ⟨_, I⟩ => I.type
  it := fun _ _ X _ => by
    obtain ⟨cdD, hcD⟩ := Option.isSome_iff_exists.mp c.cls
    unfold clsIn at hcD
    split at hcD
    · rename_i c' d' cd' sl' ho
      intro A' Q' E' s' k q
      unfold isType loadHead
      exact wpAny_bind (wpAny_loadPart (k _ _ (X _ _ ho)) (wpAny_pure q))
    · cases hcD
  ne := fun h tp dd its n sl X htp => by
    obtain ⟨cdD, hcD⟩ := Option.isSome_iff_exists.mp c.cls
    refine Bool.eq_false_iff.mpr fun q => ?_
    have e : C = tp := Value.ref.inj (beq_iff_eq.mp q)
    subst e
    unfold clsIn at hcD
    split at hcD
    · rename_i c' d' cd' sl' ho
      have z := (X _ _ ho).symm.trans htp
      cases z
    · cases hcD
  ca := fun X ⟨_, I⟩ k => exc_class c X I k
end
end Exc

namespace L2
open PySem PySem.Spec PyProof.Rows Exc
noncomputable def isExc (C ea : Addr) : Heap → Prop := fun h => ∃ o, PySem.W.InstAt h ea o C none
theorem isExc_ok {P : Program} {w : World} {H : Hp} {h : Heap} {C ea : Addr} (x : isExc C ea h) : ObjOk P w H h ea (.ext (isExc C ea)) := by
  obtain ⟨o, i⟩ := id x
  refine ⟨x, ⟨o, i.at_⟩, fun h1 h2 y k => ?_⟩
  obtain ⟨o, i⟩ := y
  have hd := i.dict
  refine ⟨o, k _ i.at_, i.cls, i.no, ?_⟩
  cases q : o.dict with
  | none => trivial
  | some d => rw [q] at hd; exact hd.elim
section
variable {X : Cx} {e : Expr} {te : TE} {p p2 pos : Pos} {c : Str} {T : String}
noncomputable def tIsX (K : PySem.W.Frag) (te : TE) (v : Value) : TE := fun σ H Q => te σ H fun x H1 => ∃ ea C b, x = .ref ea ∧ H1 ea = some (.ext (isExc C ea)) ∧ XK1 K C ∧ PySem.W.kitOne K (.ref C) v = some b ∧ Q (.bl b) H1
theorem pe_isX {v : Value} (hg : Gl X "isinstance") (hm : X.mg "isinstance" = none) (he : PE X e te) (hv : ∀ (pins : List (Addr × Obj)) (s : Shared) (σ : St) (H : Hp) (Q : Value → Shared → Prop), Inv X pins σ H s → Q v s → wpAny (model X.prog X.w) X.A (eval (.Name c p2) X.env) Q X.xe s)
    (h1 : starEach [e, .Name c p2] X.env = [(false, eval e X.env), (false, eval (.Name c p2) X.env)] := by rfl) (h2 : starEach [.Name c p2] X.env = [(false, eval (.Name c p2) X.env)] := by rfl) :
    PE X (.Call (.Name "isinstance" p) [e, .Name c p2] [] pos) (tIsX X.K te v) := by
  intro pins s σ H Q I h
  refine wpAny_Call_Name_kw (ld_blt I hg hm b_isinstance ?_)
  refine PyProof.Rows.callWith_builtin1 ?_ (by rw [h1, h2]) (by rw [h2]; rfl)
  rw [h1]
  refine Calls.spliced_cons ?_
  refine thn (he pins s σ H _ I h) fun u s1 ⟨x, H1, I1, r1, q1⟩ => ?_
  obtain ⟨ea, C, b, rfl, hH, xc, hk, q⟩ := q1
  cases r1
  refine Calls.spliced_cons (hv pins s1 σ H1 _ I1 (Calls.spliced_nil ?_))
  obtain ⟨hx, _, _⟩ : ObjOk X.prog X.w H1 s1.heap ea (.ext (isExc C ea)) := I1.hok ea _ hH
  exact PySem.W.kia_one (kitx_exc xc) I1.kIn hx hk (fun z => nomatch z) fun tk => ⟨.bl b, H1, I1.tok tk, rfl, q⟩
end
end L2

namespace L2
open PySem PySem.Spec PyProof.Rows Exc
section
variable {X : Cx} {pins : List (Addr × Obj)} {σ : St} {H : Hp} {s : Shared} {h2 : Heap}
theorem Inv.shift {ch : List Addr} {t' : Nat} (I : Inv X pins σ H s) (sh : Shift (frs X.stack) ch s.heap h2) (hc : ∀ b ∈ ch, X.s₀.heap.get? b = none ∧ H b = none ∧ b ≠ X.env.locals ∧ (∀ x c, X.env.cells.lookup x = some c → c ≠ b) ∧ ∀ p ∈ X.pn ++ pins, p.1 ≠ b) :
    Inv X pins σ H { s with heap := h2, toks := t' } := by
  have nch : ∀ b o, X.s₀.heap.get? b = some o → b ∉ ch := fun b o e z => by rw [(hc b z).1] at e; cases e
  have nL : ∀ b o, X.s₀.heap.get? b = some o → b ≠ X.env.locals := fun b o e => Nat.ne_of_lt (Nat.lt_of_lt_of_le (Heap.lt_size e) I.ok.above)
  have inS : ∀ b, b ∈ frs X.stack → b = X.env.locals ∨ b ∈ X.fs := fun b hb => List.mem_cons.mp (I.stkSub b hb)
  have any : ∀ b o, b ∉ ch → s.heap.get? b = some o → ∃ sl, h2.get? b = some { o with slots := sl } := fun b o hb e => by
    by_cases z : b ∈ frs X.stack
    · exact sh.2.1 b o z hb e
    · exact ⟨o.slots, sh.1 b o z hb e⟩
  have cellK : ∀ x c, X.env.cells.lookup x = some c → ∀ v, s.heap.IsCell c v → h2.IsCell c v := fun x c e v ⟨o, ho, hd⟩ => by
    obtain ⟨sl, q⟩ := any c o (fun z => (hc c z).2.2.2.1 x c e rfl) ho
    exact ⟨_, q, hd⟩
  refine ⟨I.ok, I.os, I.bare, ⟨fun b o e n hb hx => ?_, fun b o e n hb hx => ?_, I.base.free, fun b o e hx => ?_, I.base.tups, I.base.frzs, I.base.tbls⟩, ?_, fun x c e => ?_, I.free, I.freeC, fun p hp => ?_, I.hok.shift sh I.stkFree fun b hb => (hc b hb).2.1, I.len⟩
  · exact sh.1 b o (fun z => (inS b z).elim (nL b o e) hb) (nch b o e) (I.base.keep b o e n hb hx)
  · obtain ⟨sl, e1⟩ := I.base.slot b o e n hb hx
    obtain ⟨sl2, e2⟩ := any b _ (nch b o e) e1
    exact ⟨sl2, e2⟩
  · obtain ⟨o2, e1⟩ := I.base.there b o e hx
    obtain ⟨sl2, e2⟩ := any b _ (nch b o e) e1
    exact ⟨_, e2⟩
  · obtain ⟨m, ⟨o, es, ep, ho, hd, r⟩, hl⟩ := I.loc
    obtain ⟨sl, q⟩ := any _ o (fun z => (hc _ z).2.2.1 rfl) ho
    refine ⟨m, ⟨_, es, ep, q, hd, r⟩, fun i x v e1 e2 e3 => ?_⟩
    obtain ⟨u, ru, l⟩ := hl i x v e1 e2 e3
    refine ⟨u, ru, ?_⟩
    rcases l with l | ⟨k, c, e, z⟩
    · exact .inl l
    · exact .inr ⟨k, c, e, cellK x c e _ z⟩
  · obtain ⟨v, z⟩ := I.cell x c e
    exact ⟨v, cellK x c e v z⟩
  · obtain ⟨e, n, ne, nf, d⟩ := I.pin p hp
    exact ⟨sh.1 p.1 p.2 (fun z => (inS p.1 z).elim ne nf) (fun z => (hc p.1 z).2.2.2.2 p hp rfl) e, n, ne, nf, d⟩
theorem Inv.track {a : Addr} {o : HO} (I : Inv X pins σ H s) (n0 : X.s₀.heap.get? a = none) (n1 : H a = none) (nL : a ≠ X.env.locals) (nC : ∀ x c, X.env.cells.lookup x = some c → c ≠ a) (nP : ∀ p ∈ X.pn ++ pins, p.1 ≠ a) (new : ObjOk X.prog X.w (upd H a o) s.heap a o) :
    Inv X pins σ (upd H a o) s := by
  have ne : ∀ b u, H b = some u → b ≠ a := fun b u e z => by rw [z, n1] at e; cases e
  refine ⟨I.ok, I.os, I.bare, ⟨I.base.keep, I.base.slot, fun b u e n hx => ?_, I.base.there, fun b xs e => ?_, fun b u v e => ?_, fun b ps e => ?_⟩, I.loc, I.cell, ?_, fun x c e => ?_, fun p hp => ?_, fun b u e => ?_, I.len⟩
  · rw [upd_ne (fun z => by rw [z, n0] at e; cases e)]; exact I.base.free b u e n hx
  · have := I.base.tups b xs e
    rw [upd_ne (ne _ _ this)]; exact this
  · have := I.base.frzs b u v e
    rw [upd_ne (ne _ _ this)]; exact this
  · obtain ⟨more, this⟩ := I.base.tbls b ps e
    exact ⟨more, by rw [upd_ne (ne _ _ this)]; exact this⟩
  · rw [upd_ne nL.symm]; exact I.free
  · rw [upd_ne (nC x c e)]; exact I.freeC x c e
  · obtain ⟨q1, q2, q3⟩ := I.pin p hp
    exact ⟨q1, by rw [upd_ne (nP p hp)]; exact q2, q3⟩
  · by_cases z : b = a
    · subst z
      rw [upd_same] at e
      cases e
      exact new
    · rw [upd_ne z] at e
      exact (I.hok b u e).stay (fun _ _ _ q => q) (fun c q => by rw [upd_ne (ne _ _ q)]; exact q) fun c xs q => by rw [upd_ne (ne _ _ q)]; exact q
theorem Inv.goes {i : Nat} {n : Str} {v : Option Value} {m : Str → Option Value} {t' : Nat} (I : Inv X pins σ H s) (hN : X.N.Nodup) (hi : X.N[i]? = some n) (hk : X.env.kindOf n = some .local) (hn : s.heap.Ns X.env.locals m)
    (hn2 : h2.Ns X.env.locals (fun x => if x = n then v else m x)) (sb : Heap.SameBut X.env.locals s.heap h2) : Inv X pins (σ.set i none) H { s with heap := h2, toks := t' } := by
  have k : ∀ b, b ≠ X.env.locals → h2.get? b = s.heap.get? b := fun b hb => sb.2 b hb
  have nL : ∀ b o, X.s₀.heap.get? b = some o → b ≠ X.env.locals := fun b o e => Nat.ne_of_lt (Nat.lt_of_lt_of_le (Heap.lt_size e) I.ok.above)
  have cellK : ∀ x c, X.env.cells.lookup x = some c → ∀ v, s.heap.IsCell c v → h2.IsCell c v := fun x c e v ⟨o, ho, hd⟩ => ⟨o, (k c (I.cne x c e)).trans ho, hd⟩
  refine ⟨I.ok, I.os, I.bare, ⟨fun b o e n hb hx => (k b (nL b o e)).trans (I.base.keep b o e n hb hx), fun b o e n hb hx => ?_, I.base.free, fun b o e hx => ?_, I.base.tups, I.base.frzs, I.base.tbls⟩, ⟨_, hn2, fun j x u e1 e2 e3 => ?_⟩, fun x c e => ?_, I.free, I.freeC, fun p hp => ?_, fun b u e => ?_, by rw [List.length_set]; exact I.len⟩
  · obtain ⟨sl, e1⟩ := I.base.slot b o e n hb hx
    exact ⟨sl, (k b (nL b o e)).trans e1⟩
  · obtain ⟨o2, e1⟩ := I.base.there b o e hx
    exact ⟨o2, (k b (nL b o e)).trans e1⟩
  · have hj : j ≠ i := fun z => by
      subst z
      by_cases q : j < σ.length
      · rw [List.getElem?_set_self q] at e2; cases e2
      · rw [List.getElem?_eq_none (by rw [List.length_set]; omega)] at e2; cases e2
    rw [List.getElem?_set_ne hj.symm] at e2
    have hxn : x ≠ n := fun z => by
      subst z
      exact hj (nodup_ix hN e1 hi)
    obtain ⟨m0, hn0, hl⟩ := I.loc
    have em : m0 = m := by
      obtain ⟨o1, es1, ep1, a1, b1, _, c1⟩ := hn0
      obtain ⟨o2, es2, ep2, a2, b2, _, c2⟩ := hn
      rw [a1] at a2; cases a2
      rw [b1] at b2; cases b2
      funext y
      rw [← c1 y, ← c2 y]
    subst em
    obtain ⟨w, rw', l⟩ := hl j x u e1 e2 e3
    refine ⟨w, rw', ?_⟩
    rcases l with ⟨l1, l2⟩ | ⟨l1, c, l2, l3⟩
    · exact .inl ⟨l1, by show (if x = n then v else m0 x) = some w; rw [if_neg hxn]; exact l2⟩
    · exact .inr ⟨l1, c, l2, cellK x c l2 _ l3⟩
  · obtain ⟨u, z⟩ := I.cell x c e
    exact ⟨u, cellK x c e u z⟩
  · obtain ⟨e, nn, ne, nf, d⟩ := I.pin p hp
    exact ⟨(k p.1 ne).trans e, nn, ne, nf, d⟩
  · refine (I.hok b u e).stay (fun c w hc q => (k c ?_).trans q) (fun _ q => q) fun _ _ q => q
    intro z
    rcases hc with y | y
    · rw [z] at y; rw [← y, I.free] at e; cases e
    · rw [z, I.free] at y; cases y
end
end L2

namespace Exc
open PySem PySem.Spec PyProof.Rows PySem.W
structure XD1 (K : Frag) (D : Addr) : Prop where
  cls : (clsIn K D).isSome = true
  ty : typeIn K (.ref D) = some (.type "type")
  mb : mroIn K D (.type "BaseException") = some true
theorem sub_type_tuple : isSubtype (.type "type") (.type "tuple") = pure false := by rw [isSubtype_type]; kernel_rfl
theorem exc_match {M : Model} {A : Around} {E : Value → Shared → Prop} {s : Shared} {K : Frag} {x C D : Addr} {ox : Obj} {Q : Bool → Shared → Prop} (X : K.In s.heap) (I : InstAt s.heap x ox C none) (d : XD1 K D) (hs : mroIn K C (.ref D) = some true) (h : Q true s) :
    wpAny M A (excMatches (.ref x) (.ref D)) Q E s := by
  have L0 := I.type (M := M)
  have L1 := looks_typeIn (M := M) X d.ty
  have L2 := looks_mroIn (M := M) X d.mb
  have L3 := looks_mroIn (M := M) X hs
  have L4 : Looks M s.heap (isType (.ref D)) true := by
    obtain ⟨cdD, hcD⟩ := Option.isSome_iff_exists.mp d.cls
    unfold clsIn at hcD
    split at hcD
    · rename_i c' d' cd' sl' ho
      intro A' Q' E' s' k q
      unfold isType loadHead
      exact wpAny_bind (wpAny_loadPart (k _ _ (X _ _ ho)) (wpAny_pure q))
    · cases hcD
  have L5 : Looks M s.heap (isSubtype (.type "type") (.type "tuple")) false := Looks.of_pure sub_type_tuple
  obtain ⟨hh, g, dd, t, os⟩ := s
  unfold excMatches isInstance isExcClass
  repeat (first | lk | wp_step)
  exact h
end Exc

namespace L2
open PySem PySem.Spec PyProof.Rows Exc
section
variable {X : Cx} {k i : Nat} {x n hx : Str} {sp : Sp} {p cpos epos hp hpos pos : Pos} {e : Expr} {es : List Expr} {t : TA} {b0 : Stmt} {suite : List Stmt} {ts : TS} {D : Addr}
noncomputable def tTry (K : PySem.W.Frag) (sp : Sp) (t : TA) (D : Addr) (i : Nat) (ts : TS) : TS := fun Dn σ H => t σ H fun vs H1 => sp vs H1 (fun _ H2 => Dn.nx σ H2) (fun cls _ H2 => ∃ C, cls = .ref C ∧ PySem.W.mroIn K C (.ref D) = some true ∧
  ∀ ea, H2 ea = none → ts { nx := fun σ' H3 => Dn.nx (σ'.set i none) H3, rt := fun _ _ => False } (σ.set i (some (.ref ea))) (upd H2 ea (.ext (isExc C ea))))
theorem ps_tryCall (c : CalX X.prog X.w X.K X.mg X.base x k sp) (hr : Room k X.A) (hg : Gl X x) (ha : ∀ E, PA (X.wish E) (e :: es) t) (hgx : Gl X hx) (hmx : X.mg hx = some (.ref D)) (hd : XD1 X.K D) (hN : X.N.Nodup) (hi : X.N[i]? = some n) (hl : X.env.scope.names.lookup n = some .local)
    (hex : X.ex = []) (hstk : X.stack = X.env :: X.outer) (hfr : X.env.frame = some X.env.locals) (hs : ∀ ea, PSs (X.re (X.A.mark (some (.ref ea)))) (b0 :: suite) ts) (hsw : swapsWith (.Call (.Name x p) (e :: es) [] cpos) none epos.line X.env = pure false := by rfl)
    (hdb : (x == ("__debug__" : Str)) = false := by decide) (hdx : (hx == ("__debug__" : Str)) = false := by decide) (he : starEach (e :: es) X.env = (false, eval e X.env) :: starEach es X.env := by rfl) (hpl : (backTo cpos (starEach es X.env)).any (·.1) = false := by rfl) :
    PS X (.Try [.Expr (.Call (.Name x p) (e :: es) [] cpos) epos] [.ExceptHandler (some (.Name hx hp)) (some n) (b0 :: suite) hpos] [] [] pos) (tTry X.K sp t D i ts) := by
  intro pins s σ H Dn I h
  obtain ⟨f, fd, ps, hm, F, hk, hb⟩ := c
  refine wpAny_Try_except ?_
  generalize hE : (fun e s₁ => wpAny (model X.prog X.w) X.A (noteFrame e X.env) (fun _ s₂ => wpAny (model X.prog X.w) X.A (setFlight e none) (fun _ s₃ => wpAny (model X.prog X.w) X.A (handleBy e X.env [.ExceptHandler (some (.Name hx hp)) (some n) (b0 :: suite) hpos]) (SP X pins Dn) X.xe s₃) X.xe s₂) X.xe s₁) = E2
  have J := I.wish E2
  have body : wpAny (model X.prog X.w) X.A (eval (.Call (.Name x p) (e :: es) [] cpos) X.env) (fun _ s1 => ∃ H2, Inv X pins σ H2 s1 ∧ Dn.nx σ H2) E2 s := by
    refine wpAny_Call_Name_kw (ld_glob I hg hm ?_ hdb)
    refine PySem.W.callWith_K (h₀ := X.base) I.ok.mod.kin hk (thn (ha E2 cpos pins s σ H _ J h) fun us s1 ⟨vs, H1, I1, r, q⟩ => ⟨I1.kIn, ?_⟩) he hpl
    have I1 := I1.unwish
    have hl2 : (us ++ []).length = ps.length := by rw [List.append_nil, ← r.length]; exact F.len _ _ _ _ q
    refine wpAny_call (codeAny_mono (F.run X.A X.stack s1 H1 ⟨us, []⟩ (us ++ []) vs _ _ hr I1.env0 (hb s1 us I1.kIn hl2) (by simpa using r) q) fun r s' hq => ?_)
    match r, hq with
    | .ok (.ret u), hq =>
      obtain ⟨v, H2, I2, _, q⟩ := I1.after hq
      exact ⟨H2, I2, q⟩
    | .ok .next, hq => exact hq.elim
    | .ok .brk, hq => exact hq.elim
    | .ok .cont, hq => exact hq.elim
    | .error e, hq =>
      obtain ⟨ea, T, cls, H2, rfl, os, bare, un, hok, tb, n1, n2, z1, z2, C, rfl, hmr, q⟩ := hq
      have I2 : Inv X pins σ H2 s' := I1.call' os un hok bare (ch := []) (fun b z => nomatch z)
      have fresh : ∀ b, s1.heap.get? b = none → X.s₀.heap.get? b = none ∧ b ≠ X.env.locals ∧ (∀ x c, X.env.cells.lookup x = some c → c ≠ b) ∧ ∀ p ∈ X.pn ++ pins, p.1 ≠ b := fun b z => by
        refine ⟨?_, ?_, fun y c e w => ?_, fun p hp w => ?_⟩
        · cases q : X.s₀.heap.get? b with
          | none => rfl
          | some o => obtain ⟨o2, w⟩ := I1.base.there b o q (by rw [hex]; simp); rw [z] at w; cases w
        · intro w
          obtain ⟨m, ⟨o, _, _, ho, _⟩, _⟩ := I1.loc
          rw [← w, z] at ho; cases ho
        · obtain ⟨v, o, ho, _⟩ := I1.cell y c e
          rw [w, z] at ho; cases ho
        · have := (I1.pin p hp).1
          rw [w, z] at this; cases this
      obtain ⟨a1, a2, a3, a4⟩ := fresh ea n1
      obtain ⟨b1, b2, b3, b4⟩ := fresh T n2
      rw [← hE]
      refine note_next (base := X.base) (by rw [← hstk]; exact I2.ok.frames) (by rw [← hstk]; exact I2.stack) hfr tb fun h3 sh tb3 => ?_
      have I3 : Inv X pins σ H2 { s' with heap := h3 } := I2.shift (t' := s'.toks) (ch := [T, ea]) (by unfold frs; rw [hstk]; exact sh) fun b hb => by
        rcases List.mem_cons.mp hb with rfl | hb
        · exact ⟨b1, z2, b2, b3, b4⟩
        · rw [List.mem_singleton.mp hb]; exact ⟨a1, z1, a2, a3, a4⟩
      obtain ⟨c0, c1, c2, c3, c4, c5⟩ : FpOk X pins H2 s'.heap.objs.size := I2.fpOk (Nat.le_refl _) (I2.hok.fresh (Nat.le_refl _))
      obtain ⟨oe, vs', oT, tf, he3, hcl, hdi, hda, hv1, hTe, hT3, hdT, ht3⟩ := tb3
      have inst : PySem.W.InstAt h3 ea oe C none := ⟨he3, hcl, by unfold PySem.W.notCls; rw [hda], by rw [hdi]; trivial⟩
      refine wpAny_handleBy_cons (codeAny_handlers_test ?_) (by intro q; cases q)
      have J3 : Inv (X.re (X.A.mark (some (.ref ea)))) pins σ H2 { s' with heap := h3 } := I3.re rfl
      refine ld_glob (X := X.re (X.A.mark (some (.ref ea)))) J3 hgx hmx ?_ hdx
      refine exc_match (K := X.K) J3.kIn inst hd hmr ?_
      refine codeAny_handlers_suite_as ?_
      unfold setFlight
      refine wpAny_bind (wpAny_field he3 hda hv1 ?_)
      rw [if_pos (show (Value.ref s'.heap.objs.size != Value.none) = true from by simp)]
      refine wpAny_setField hT3 hdT (Array.getElem?_eq_some_iff.mp ht3).1 ?_
      generalize h4e : h3.update s'.heap.objs.size (Obj.mapFields (·.setIfInBounds 3 ((none : Option Addr).elim Value.none fun f => rawInt f))) = h4
      have k4 : ∀ b, b ≠ s'.heap.objs.size → h4.get? b = h3.get? b := fun b hb => by rw [← h4e]; exact Heap.get?_update_other _ _ (Ne.symm hb)
      have I4 : Inv X pins σ H2 { s' with heap := h4 } := Inv.turned (s := { s' with heap := h3 }) (it := s'.heap.objs.size) (t' := s'.toks) I3 (fun b o hb e => (k4 b hb).trans e) c0 c1 c3 c4 c5
      have inst4 : PySem.W.InstAt h4 ea oe C none := ⟨(k4 ea (Ne.symm hTe)).trans he3, hcl, inst.no, by rw [hdi]; trivial⟩
      have I5 : Inv X pins σ (upd H2 ea (.ext (isExc C ea))) { s' with heap := h4 } := I4.track a1 z1 a2 a3 a4 (isExc_ok ⟨oe, inst4⟩)
      refine store_ok (X := X) (v := .ref ea) I5 hN hi (Or.inl hl) rfl (fun s5 I6 => ?_) (.inr hl)
      refine wpAny_mono (hs ea pins s5 _ _ _ (I6.re rfl) (q ea z1)) (fun fl s6 w => ?_) fun _ _ w => w.elim
      match fl, w with
      | .next, w =>
        obtain ⟨σ7, H7, J7, q7⟩ := w
        have I7 := J7.unre I.ok
        obtain ⟨m, hm7, _⟩ := I7.loc
        exact wpAny_nameGoes_keeps hl hm7 (by rw [I.ok.kind]; rfl) fun h8 v8 hn8 sb8 => ⟨σ7.set i none, H7, I7.goes hN hi hl hm7 hn8 sb8, q7⟩
      | .ret u, w => obtain ⟨_, _, _, _, _, w⟩ := w; exact w.elim
      | .brk, w => obtain ⟨_, _, _, w⟩ := w; exact w.elim
      | .cont, w => obtain ⟨_, _, _, w⟩ := w; exact w.elim
  exact wpAny_execs_cons (wpAny_Expr_any (thn body fun v s1 ⟨H2, I2, q⟩ => wpAny_execs_nil (wpAny_execs_nil ⟨σ, H2, I2, q⟩)) I.quiet hsw)
end
end L2

namespace L2
open PySem PySem.Spec PyProof.Rows Exc PySem.W
noncomputable def isStrK (e : DictEntry) : Bool := match e.key with | .str _ _ => true | _ => false
section
variable {K : Frag} {C N D : Addr}
theorem ns_mk {h : Heap} {c2 : Value} {d2 : Option Addr} {es : Array DictEntry} {ep : Nat} {sl : Array (Option Value)} (X : K.In h) (l : K.lookup N = some ⟨c2, d2, .dict es ep, sl⟩) (sk : es.toList.all isStrK = true) : h.Ns N (nsFind es) := by
  refine ⟨_, es, ep, X _ _ l, rfl, fun e he => ?_, fun _ => rfl⟩
  have h1 := List.all_eq_true.mp sk e (Array.mem_toList_iff.mpr he)
  unfold isStrK at h1
  split at h1
  · rename_i n t q
    exact ⟨n, t, q⟩
  · cases h1
theorem ns_no {c2 : Value} {d2 : Option Addr} {es : Array DictEntry} {ep : Nat} {sl : Array (Option Value)} {x : Str} (l : K.lookup N = some ⟨c2, d2, .dict es ep, sl⟩) (i : nsIn K N x = some none) : nsFind es x = none := by
  unfold nsIn at i
  rw [l] at i
  simp only at i
  unfold nsFind findBy
  rw [← Array.find?_toList]
  split at i
  · cases i
  · rename_i q; rw [q]; rfl
theorem xcls_mk {nm q : Str} {bs : List Value} {hdct : Bool} {sn : List Str} {sub : List Value} {ab : Bool} {col : Option Bool} {dd : Option Addr} {k0 k1 k2 k3 k5 : Option Value} {newId : String} {bmB : List Value} {c2 c3 c4 : Value} {d2 d3 d4 : Option Addr} {es2 es4 : Array DictEntry} {ep2 ep4 : Nat} {sl2 sl3 sl4 : Array (Option Value)} {cd3 : ClassData}
    (l1 : K.lookup C = some (excClassObj nm q C N bs (.ref D :: bmB) hdct sn sub ab col dd k0 k1 k2 k3 k5 newId)) (l2 : K.lookup N = some ⟨c2, d2, .dict es2 ep2, sl2⟩) (s2 : es2.toList.all isStrK = true) (i2 : nsIn K N "__init__" = some none)
    (l3 : K.lookup D = some ⟨c3, d3, .cls cd3, sl3⟩) (l4 : K.lookup cd3.ns = some ⟨c4, d4, .dict es4 ep4, sl4⟩) (s4 : es4.toList.all isStrK = true) (i4 : nsIn K cd3.ns "__init__" = some none) : XCls K C bmB newId :=
  ⟨_, N, nm, q, bs, hdct, sn, sub, ab, col, dd, k0, k1, k2, k3, k5, nsFind es2, fun h X => ⟨X _ _ l1, ns_mk X l2 s2, ns_no l2 i2, .own (X _ _ l3) (ns_mk X l4 s4) (ns_no l4 i4) .base⟩⟩
theorem kit_ref {cd : ClassData} {b : Bool} (ne : (Value.ref C == Value.ref D) = false) (cl : clsIn K D = some cd) (ty : typeIn K (.ref D) = some (.type "type")) (sb : subIn K (.ref C) (.ref D) = some b) : kitOne K (.ref C) (.ref D) = some b := by
  unfold kitOne
  rw [if_neg (by rw [ne]; decide)]
  unfold kitCls
  simp only [cl, ty, Option.isSome_some, Bool.true_and, beq_self_eq_true, if_true]
  exact sb
theorem kit_self : kitOne K (.ref C) (.ref C) = some true := by
  unfold kitOne
  rw [if_pos (by simp)]
theorem kit_ve {b : Bool} (sb : subIn K (.ref C) (.type "ValueError") = some b) : kitOne K (.ref C) (.type "ValueError") = some b := by
  unfold kitOne
  rw [if_neg (by intro z; cases (beq_iff_eq.mp z))]
  unfold kitCls
  first
    | exact sb
    | (rw [if_pos (by decide +kernel)]; exact sb)
    | (simp only; rw [if_pos (by decide +kernel)]; exact sb)
end
end L2

namespace L2
open PySem PySem.Spec PyProof.Rows Exc
section
variable {P : Program} {w : World} {K : PySem.W.Frag} {mg : Str → Option Value} {base : Heap} {N : List Str} {qual : Str} {scope : Scope} {f : Addr} {cd : Value} {A : Around} {outer : List Env} {s0 : Shared} {H0 : Hp} {E : XK}
theorem pass_on : Passes (CX1 P w) (cxOf (CX1 P w) P w K mg base N qual scope f cd A outer s0 H0 E) E := by
  intro pins σ H s e s' I h
  obtain ⟨ea, T, cls, H2, rfl, os, bare, un, hok, tb, n1, n2, z1, z2, q⟩ := h
  have I2 : Inv (cxOf (CX1 P w) P w K mg base N qual scope f cd A outer s0 H0 E) pins σ H2 s' := I.call' os un hok bare (ch := []) (fun b z => nomatch z)
  show wpAny (model P w) (A.deeper (envOfC qual scope s0.heap.objs.size f cd)) (leaving (envOfC qual scope s0.heap.objs.size f cd) (.ref ea)) _ _ _
  unfold leaving
  refine wpAny_bind (note_next (s := s') I2.ok.frames I2.stack rfl tb fun h3 sh tb3 => ?_)
  have frn : ∀ b ∈ frs (envOfC qual scope s0.heap.objs.size f cd :: outer), H2 b = none := I2.stkFree
  have hT1 : H2 s'.heap.objs.size = none := I2.hok.fresh (Nat.le_refl _)
  have gone : ∀ b : Addr, s.heap.get? b = none → s0.heap.get? b = none := fun b z => by
    cases q : s0.heap.get? b with
    | none => rfl
    | some o => obtain ⟨o2, z2⟩ := I.base.there b o q (by show b ∉ ([] : List Addr); simp); rw [z] at z2; cases z2
  have gone2 : ∀ b : Addr, s'.heap.get? b = none → s0.heap.get? b = none := fun b z => by
    cases q : s0.heap.get? b with
    | none => rfl
    | some o => obtain ⟨o2, z2⟩ := I2.base.there b o q (by show b ∉ ([] : List Addr); simp); rw [z] at z2; cases z2
  have hlt : ∀ b o, s0.heap.get? b = some o → b ≠ s0.heap.objs.size := fun b o q => Nat.ne_of_lt (Heap.lt_size q)
  have hne : ∀ b o, s0.heap.get? b = some o → b ∉ [T, ea] := fun b o q z => by
    rcases List.mem_cons.mp z with z | z
    · rw [z, gone T n2] at q; cases q
    · rw [List.mem_singleton.mp z, gone ea n1] at q; cases q
  refine ⟨ea, s'.heap.objs.size, cls, H2, rfl, I2.os, I2.bare, ⟨fun b o q n hb _ => ?_, fun b o q n hb _ => ?_, fun b o q n _ => I2.base.free b o q n (by show b ∉ ([] : List Addr); simp), fun b o q _ => ?_, I2.base.tups, I2.base.frzs, I2.base.tbls⟩,
    I2.hok.shift sh frn (fun b hb => by
      rcases List.mem_cons.mp hb with rfl | hb
      · exact z2
      · rw [List.mem_singleton.mp hb]; exact z1), tb3, gone ea n1, ?_, z1, hT1, q⟩
  · refine sh.1 b o ?_ (hne b o q) (I2.base.keep b o q n hb (by show b ∉ ([] : List Addr); simp))
    intro z
    rcases List.mem_cons.mp z with z | z
    · exact hlt b o q z
    · exact hb z
  · obtain ⟨sl, q2⟩ := I2.base.slot b o q n hb (by show b ∉ ([] : List Addr); simp)
    obtain ⟨sl2, q3⟩ := sh.2.1 b _ (List.mem_cons_of_mem _ hb) (hne b o q) q2
    exact ⟨sl2, q3⟩
  · obtain ⟨o2, q2⟩ := I2.base.there b o q (by show b ∉ ([] : List Addr); simp)
    by_cases z : b ∈ frs (envOfC qual scope s0.heap.objs.size f cd :: outer)
    · obtain ⟨sl, q3⟩ := sh.2.1 b _ z (hne b o q) q2
      exact ⟨_, q3⟩
    · exact ⟨_, sh.1 b _ z (hne b o q) q2⟩
  · refine gone2 _ ?_
    cases z : s'.heap.get? s'.heap.objs.size with
    | none => rfl
    | some o => exact absurd (Heap.lt_size z) (Nat.lt_irrefl _)
variable {k : Nat} {x : Str} {sp : Sp} {p pos : Pos} {e : Expr} {es : List Expr} {t : TA}
theorem pe_calY (c : CalX P w K mg base x k sp) (hr : Room k (cxOf (CX1 P w) P w K mg base N qual scope f cd A outer s0 H0 E).A) (hg : Gl (cxOf (CX1 P w) P w K mg base N qual scope f cd A outer s0 H0 E) x) (ha : PA (cxOf (CX1 P w) P w K mg base N qual scope f cd A outer s0 H0 E) (e :: es) t) (hdb : (x == ("__debug__" : Str)) = false := by decide)
    (he : starEach (e :: es) (cxOf (CX1 P w) P w K mg base N qual scope f cd A outer s0 H0 E).env = (false, eval e (cxOf (CX1 P w) P w K mg base N qual scope f cd A outer s0 H0 E).env) :: starEach es (cxOf (CX1 P w) P w K mg base N qual scope f cd A outer s0 H0 E).env := by rfl)
    (hpl : (backTo pos (starEach es (cxOf (CX1 P w) P w K mg base N qual scope f cd A outer s0 H0 E).env)).any (·.1) = false := by rfl) : PE (cxOf (CX1 P w) P w K mg base N qual scope f cd A outer s0 H0 E) (.Call (.Name x p) (e :: es) [] pos) (tCall sp [] E t) := by
  obtain ⟨f, fd, ps, hm, F, hk, hb⟩ := c
  exact pe_call F hr hg hm hk hb .nil pass_on ha hdb he hpl
end
end L2

namespace K04
open PySem L2
noncomputable def top (i : Nat) : Stmt := PySem.Challenge.pw_shadowheaps_k04_families_refused.main.body.getD i (.Pass ⟨0, 0, 0, 0⟩)
structure Bt (mg : Str → Option Value) : Prop where
  len : mg "len" = none
  min : mg "min" = none
  max : mg "max" = none
  sum : mg "sum" = none
  sorted : mg "sorted" = none
  list : mg "list" = none
  tuple : mg "tuple" = none
  set : mg "set" = none
  reversed : mg "reversed" = none
  isinstance : mg "isinstance" = none
  int : mg "int" = none
  bool : mg "bool" = none
  range : mg "range" = none
  enumerate : mg "enumerate" = none
  ValueError : mg "ValueError" = none
  any : mg "any" = none
  str : mg "str" = none
  dict : mg "dict" = none
theorem ite3 {b : Bool} {A B : Prop} (hB : B) (hA : B → b = true → A) : if b = true then A else B := by
  cases b with
  | true => exact hA hB rfl
  | false => exact hB
theorem room1 {k : Nat} {A : PySem.Around} (r : Room k A) : A.units + 1 < cLine := by have := r.un; omega
theorem upd_fresh {H : Hp} {a : Addr} {o : HO} (h : H a = none) : Same H (upd H a o) := fun b u e => by rw [upd_ne (ne_of_none e h)]; exact e
theorem mod_nat (x : Int) (m : Nat) (h : 0 < m) : ∃ n : Nat, x % (m : Int) = (n : Int) ∧ n < m :=
  ⟨(x % (m : Int)).toNat, by have := Int.emod_nonneg x (show (m : Int) ≠ 0 by omega); omega, by have := Int.emod_lt_of_pos x (show (0 : Int) < m by omega); omega⟩
noncomputable def spLaw (K : PySem.W.Frag) : Sp := fun vs H Q _ => ∃ (a : Addr) (ns : List Int), vs = [.ref a] ∧ SqL K H a (ns.map V.int) ∧ ns.length ≤ 63 ∧ ∀ H', Q (.bl true) H'
end K04

namespace K04
open PySem L2
noncomputable def rises (b : Int) : Int → List Int → Bool
  | _, [] => true
  | p, x :: r => if x ≤ p ∨ b ≤ x then false else rises b x r
noncomputable def spRb (K : PySem.W.Frag) : Sp := fun vs H Q _ => ∃ (p : Addr) (ns : List Int) (b : Int), vs = [.ref p, .int b] ∧ SqT K H p (ns.map V.int) ∧ Q (.bl (rises b (-1) ns)) H
section
variable {P : Program} {w : World} {K : PySem.W.Frag} {mg : Str → Option Value} {base : Heap}
theorem sc_rises_below : FnScope ["one", "bound", "before", "thing"] ["one", "bound"] (defScope (top 7)) := ⟨rfl, rfl, rfl, by decide +kernel, rfl, by decide +kernel, by decide +kernel⟩
theorem ok_rises_below {f : Addr} {fd : FuncData} (F : Fun K "rises_below" "rises_below" (top 7) f fd) : FnOk P w K mg base CX0 1 f fd ["one", "bound"] (spRb K) := by
  have nd := sc_rises_below.nd
  refine F.ok sc_rises_below (fun vs H Q E h => ?_) (fun cdv A outer s H vs Q E hr h => ?_)
  · obtain ⟨p, ns, b, rfl, _⟩ := h
    rfl
  · obtain ⟨p, ns, b, rfl, hq, k⟩ := h
    refine ⟨_, (pss_cons (ps_set (i := 2) nd rfl (Or.inl rfl) (pe_un un_neg pe_int))
        (pss_cons (ps_for PassesOwn.never rfl (pi_tup (pv 0)) (pg_name (i := 3) nd rfl (Or.inl rfl)) (pss_cons (ps_if (PW.pt (pw_or (pt_cmpR op_le (pv 3) (pv 2) (nomark _)) (pw_or1 (pt_cmpR op_ge (pv 3) (pv 1) (nomark _))))) (pss_one (ps_ret pe_bl)) pss_nil)
        (pss_one (ps_set (i := 2) nd rfl (Or.inl rfl) (pv 3)))))
        (pss_one (ps_ret pe_bl)))), ?_⟩
    refine ⟨_, rfl, _, rfl, p, rfl, ⟨_, hq⟩, ?_⟩
    refine for_tup (K := K) (a := p) (xs := ns.map V.int) (fun i σ H2 => ∃ (v : Option V) (c : Int), σ = [some (.ref p), some (.int b), some (.int c), v] ∧ H2 = H ∧ rises b (-1) ns = rises b c (ns.drop i)) ⟨none, -1, rfl, rfl, rfl⟩ (fun i σ H2 _ ⟨_, _, _, e, _⟩ => e ▸ hq) ?_ ?_
    · rintro i y σ H2 hy ⟨v, c, rfl, rfl, e⟩
      rw [List.getElem?_map] at hy
      obtain ⟨z, hz, rfl⟩ := Option.map_eq_some_iff.mp hy
      obtain ⟨hl, hz⟩ := List.getElem?_eq_some_iff.mp hz
      rw [List.drop_eq_getElem_cons hl, hz] at e
      refine ⟨_, rfl, _, rfl, _, _, rfl, rfl, _, rfl, ?_⟩
      refine ite2 (fun h1 => ?_) (fun h1 => ?_)
      · have h1 : z ≤ c := by simpa using h1
        refine iteT ?_
        rw [e, rises, if_pos (.inl h1)] at k
        exact k
      · have h1 : ¬ z ≤ c := by simpa using h1
        refine ⟨_, rfl, _, rfl, _, _, rfl, rfl, _, rfl, ?_⟩
        refine ite2 (fun h2 => ?_) (fun h2 => ?_)
        · have h2 : b ≤ z := by simpa using h2
          rw [e, rises, if_pos (.inr h2)] at k
          exact k
        · have h2 : ¬ b ≤ z := by simpa using h2
          rw [rises, if_neg (by omega)] at e
          exact ⟨_, rfl, _, z, rfl, rfl, e⟩
    · rintro σ H2 ⟨v, c, rfl, rfl, e⟩
      rw [List.length_map, List.drop_length, rises] at e
      rw [e] at k
      exact k
end
end K04

namespace K04
open PySem L2
noncomputable def spCell (K : PySem.W.Frag) : Sp := fun vs H Q _ => ∃ (a : Addr) (ns : List Int) (k : Nat), vs = [.ref a, .int k] ∧ SqL K H a (ns.map V.int) ∧ Q (.int (ns.getD k 0)) H
section
variable {P : Program} {w : World} {K : PySem.W.Frag} {mg : Str → Option Value} {base : Heap}
theorem sc__law_cell_at : FnScope ["script", "k"] ["script", "k"] (defScope (top 25)) := ⟨rfl, rfl, rfl, by decide +kernel, rfl, by decide +kernel, by decide +kernel⟩
theorem ok__law_cell_at {f : Addr} {fd : FuncData} (F : Fun K "_law_cell_at" "_law_cell_at" (top 25) f fd) (B : Bt mg) : FnOk P w K mg base CX0 1 f fd ["script", "k"] (spCell K) := by
  have nd := sc__law_cell_at.nd
  refine F.ok sc__law_cell_at (fun vs H Q E h => ?_) (fun cdv A outer s H vs Q E hr h => ?_)
  · obtain ⟨a, ns, j, rfl, _⟩ := h
    rfl
  · obtain ⟨a, ns, j, rfl, hq, k⟩ := h
    refine ⟨_, (pss_cons (ps_if (pt_cmpR op_lt (pv 1) (pe_callB call_len_seq rfl B.len PySem.boot_len (pa_cons (pv 0) pa_nil)) (nomark _)) (pss_one (ps_ret (pe_ix (r := rIxL K) ix_list (pv 0) (pv 1) (fun _ _ => rfl)))) pss_nil)
        (pss_one (ps_ret pe_int))), ?_⟩
    refine ⟨_, rfl, _, rfl, _, _, rfl, .inl hq, _, _, rfl, rfl, _, rfl, ?_⟩
    refine ite2 (fun h1 => ?_) (fun h1 => ?_)
    · have h1 : j < ns.length := by simpa using h1
      refine ⟨_, rfl, _, rfl, _, _, _, .int (ns.getD j 0), rfl, rfl, hq, ?_, k⟩
      unfold atI ixN
      rw [if_pos (by omega), if_pos (by simpa using h1)]
      simp [h1]
    · have h1 : ¬ j < ns.length := by simpa using h1
      have e : ns.getD j 0 = 0 := by rw [List.getD_eq_getElem?_getD, List.getElem?_eq_none (by omega)]; rfl
      rw [e] at k
      exact k
end
end K04

namespace K04
open PySem L2
section
variable {P : Program} {w : World} {K : PySem.W.Frag} {mg : Str → Option Value} {base : Heap}
end
end K04

namespace K04
open PySem L2
theorem at_of {xs : List V} {i : Nat} {v : V} (h : xs[i]? = some v) : atI xs (i : Int) = some v := by
  have hl := (List.getElem?_eq_some_iff.mp h).1
  unfold atI ixN
  rw [if_pos (by omega), if_pos (by omega)]
  exact h
theorem ix_of {n i : Nat} (h : i < n) : ixN n (i : Int) = some i := by
  unfold ixN
  rw [if_pos (by omega), if_pos (by omega)]
  rfl
end K04

namespace K04
open PySem L2
noncomputable def TupsH (H : Hp) (as : List Addr) (F : List (List Int)) : Prop := Paired (fun a xs => H a = some (.tup (xs.map V.int))) as F
theorem TupsH.len {H : Hp} {as : List Addr} {F : List (List Int)} (h : TupsH H as F) : as.length = F.length := by
  induction h with
  | nil => rfl
  | cons _ _ ih => rw [List.length_cons, List.length_cons, ih]
theorem TupsH.at {H : Hp} {as : List Addr} {F : List (List Int)} (h : TupsH H as F) : ∀ {i : Nat} {a : Addr}, as[i]? = some a → ∃ xs, F[i]? = some xs ∧ H a = some (.tup (xs.map V.int)) := by
  induction h with
  | nil => intro i a e; simp at e
  | cons r t ih =>
    intro i a e
    cases i with
    | zero => simp at e; subst e; exact ⟨_, rfl, r⟩
    | succ i => exact ih (by simpa using e)
theorem TupsH.same {H H' : Hp} {as : List Addr} {F : List (List Int)} (h : TupsH H as F) (s : Same H H') : TupsH H' as F := by
  induction h with
  | nil => exact .nil
  | cons r t ih => exact .cons (s _ _ r) ih
theorem deqs_i : ∀ xs ys : List Int, deqs (xs.map Dt.i) (ys.map Dt.i) = decide (xs = ys)
  | [], [] => by simp [deqs]
  | [], _ :: _ => by simp [deqs]
  | _ :: _, [] => by simp [deqs]
  | x :: xs, y :: ys => by
    rw [List.map_cons, List.map_cons, deqs, deqs_i xs ys, deq]
    rw [Bool.eq_iff_iff]
    simp
theorem likes_i : ∀ xs ys : List Int, likes (xs.map Dt.i) (ys.map Dt.i)
  | [], [] => trivial
  | [], _ :: _ => trivial
  | _ :: _, [] => trivial
  | x :: xs, y :: ys => ⟨trivial, likes_i xs ys⟩
theorem deps_i : ∀ xs : List Int, deps (xs.map Dt.i) = 0
  | [] => rfl
  | x :: xs => by rw [List.map_cons, deps, deps_i xs]; rfl
theorem atDs_i {K : PySem.W.Frag} {H : Hp} : ∀ xs : List Int, AtDs K H (xs.map V.int) (xs.map Dt.i)
  | [] => trivial
  | x :: xs => ⟨rfl, atDs_i xs⟩

theorem TupsH.snoc {H : Hp} {as : List Addr} {F : List (List Int)} {a : Addr} {xs : List Int} (h : TupsH H as F) (e : H a = some (.tup (xs.map V.int))) : TupsH H (as ++ [a]) (F ++ [xs]) := by
  induction h with
  | nil => exact .cons e .nil
  | cons r t ih => exact .cons r ih
noncomputable def okx (xs : List Int) (t : Nat) : Bool := match xs.getLast? with | none => true | some l => decide (l < (t : Int))
noncomputable def ext (n : Nat) (xs : List Int) : List (List Int) := ((List.range n).filter (okx xs)).map fun t : Nat => xs ++ [(t : Int)]
noncomputable def stg (n : Nat) : Nat → List (List Int)
  | 0 => [[]]
  | k + 1 => (stg n k).flatMap (ext n)
theorem ext_len (n : Nat) (xs : List Int) : (ext n xs).length ≤ n := by
  unfold ext
  rw [List.length_map]
  exact Nat.le_trans (List.length_filter_le _ _) (by rw [List.length_range]; exact Nat.le_refl _)
theorem flat_len {α β : Type} (f : α → List β) (n : Nat) (h : ∀ x, (f x).length ≤ n) : ∀ l : List α, (l.flatMap f).length ≤ l.length * n
  | [] => by simp
  | x :: l => by
    rw [List.flatMap_cons, List.length_append, List.length_cons, Nat.add_mul]
    have := flat_len f n h l
    have := h x
    omega
theorem stg_len (n : Nat) : ∀ k, (stg n k).length ≤ n ^ k
  | 0 => by simp [stg]
  | k + 1 => by
    have h1 := flat_len (ext n) n (ext_len n) (stg n k)
    have h2 := Nat.mul_le_mul_right n (stg_len n k)
    rw [Nat.pow_succ]
    exact Nat.le_trans h1 h2
theorem stg_le (n : Nat) : ∀ (k : Nat) (xs : List Int), xs ∈ stg n k → xs.length ≤ k
  | 0, xs, h => by
    have : xs = [] := by simpa [stg] using h
    subst this; exact Nat.le_refl _
  | k + 1, xs, h => by
    obtain ⟨ys, hy, hx⟩ := List.mem_flatMap.mp h
    obtain ⟨t, _, rfl⟩ := List.mem_map.mp hx
    have := stg_le n k ys hy
    rw [List.length_append]
    show ys.length + 1 ≤ k + 1
    omega
theorem stg_pos (n : Nat) : ∀ (k : Nat), 1 ≤ k → ∀ (xs : List Int), xs ∈ stg n k → 1 ≤ xs.length
  | 0, h, _, _ => absurd h (by omega)
  | k + 1, _, xs, h => by
    obtain ⟨ys, hy, hx⟩ := List.mem_flatMap.mp h
    obtain ⟨t, _, rfl⟩ := List.mem_map.mp hx
    rw [List.length_append]
    show 1 ≤ ys.length + 1
    omega
theorem take_flat {α β : Type} (f : α → List β) (l : List α) (i : Nat) (h : i < l.length) : (l.take (i + 1)).flatMap f = (l.take i).flatMap f ++ f l[i] := by
  rw [List.take_succ_eq_append_getElem h, List.flatMap_append]
  simp
theorem at_last {xs : List Int} (h : xs ≠ []) : ∃ l, xs.getLast? = some l ∧ atI (xs.map V.int) (-1) = some (.int l) := by
  obtain ⟨l, hl⟩ : ∃ l, xs.getLast? = some l := by
    cases q : xs.getLast? with
    | none => exact absurd (List.getLast?_eq_none_iff.mp q) h
    | some l => exact ⟨l, rfl⟩
  refine ⟨l, hl, ?_⟩
  have hp : 0 < xs.length := List.length_pos_iff.mpr h
  unfold atI ixN
  rw [if_neg (by decide), if_pos (by rw [List.length_map]; omega)]
  show (xs.map V.int)[((-1 : Int) + ((xs.map V.int).length : Nat)).toNat]? = _
  rw [List.length_map, show ((-1 : Int) + (xs.length : Nat)).toNat = xs.length - 1 by omega, List.getElem?_map, ← List.getLast?_eq_getElem?, hl]
  rfl
theorem TupsH.mem {H : Hp} {as : List Addr} {F : List (List Int)} (h : TupsH H as F) : ∀ {a : Addr} {xs : List Int}, (a, xs) ∈ as.zip F → H a = some (.tup (xs.map V.int)) := by
  induction h with
  | nil => intro a xs e; simp at e
  | cons r t ih =>
    intro a xs e
    rcases List.mem_cons.mp e with z | z
    · cases z; exact r
    · exact ih z
theorem TupsH.of_zip {H : Hp} : ∀ {as : List Addr} {F : List (List Int)}, as.length = F.length → (∀ a xs, (a, xs) ∈ as.zip F → H a = some (.tup (xs.map V.int))) → TupsH H as F
  | [], [], _, _ => .nil
  | a :: as, x :: F, hl, h => .cons (h a x (by simp)) (TupsH.of_zip (by simpa using hl) fun b y hb => h b y (by simp [hb]))
  | [], _ :: _, hl, _ => by simp at hl
  | _ :: _, [], hl, _ => by simp at hl
theorem TupsH.at' {K : PySem.W.Frag} {H : Hp} {as : List Addr} {F : List (List Int)} (h : TupsH H as F) : TupsAt K H as F := by
  induction h with
  | nil => exact .nil
  | cons r t ih => exact .cons (.inl (.inl r)) ih
theorem TupsH.put {H : Hp} {as : List Addr} {F : List (List Int)} {L : Addr} {o : List V} {o2 : HO} (h : TupsH H as F) (hL : H L = some (.lst o)) : TupsH (upd H L o2) as F := by
  induction h with
  | nil => exact .nil
  | cons r t ih => exact .cons (by rw [upd_ne (fun z => by rw [z, hL] at r; cases r)]; exact r) ih
theorem same_put {H H1 : Hp} {L : Addr} {o : HO} (s : Same H H1) (hL : H L = none) : Same H (upd H1 L o) := fun b u e => by rw [upd_ne (ne_of_none e hL)]; exact s b u e
theorem TupsAt.len {K : PySem.W.Frag} {H : Hp} {as : List Addr} {F : List (List Int)} (h : TupsAt K H as F) : as.length = F.length := by
  unfold TupsAt at h
  induction h with
  | nil => rfl
  | cons _ _ ih => rw [List.length_cons, List.length_cons, ih]
noncomputable def spSets : Sp := fun vs H Q _ => ∃ (n sz : Nat), vs = [.int n, .int sz] ∧ n ≤ 1000 ∧ 1 ≤ sz ∧ sz ≤ 12 ∧ n ^ sz ≤ 10000000 ∧ ∀ l H2 (as : List Addr) (G : List (List Int)), Same H H2 → H l = none → H2 l = some (.lst (as.map V.ref)) → TupsH H2 as (G.map List.reverse) → G.Perm ((stg n sz).map List.reverse) → G.Pairwise (fun x y => HT.lexLt y x = false) → Q (.ref l) H2
section
variable {P : Program} {w : World} {K : PySem.W.Frag} {mg : Str → Option Value} {base : Heap}
theorem sc__law_sets : FnScope ["things", "size", "sets", "k", "longer", "one", "thing"] ["things", "size"] (defScope (top 26)) := ⟨rfl, rfl, rfl, by decide +kernel, rfl, by decide +kernel, by decide +kernel⟩
set_option maxHeartbeats 4000000 in
theorem ok__law_sets {f : Addr} {fd : FuncData} (F : Fun K "_law_sets" "_law_sets" (top 26) f fd) (B : Bt mg) : FnOk P w K mg base CX0 4 f fd ["things", "size"] spSets := by
  have nd := sc__law_sets.nd
  refine F.ok sc__law_sets (fun vs H Q E h => ?_) (fun cdv A outer s H vs Q E hr h => ?_)
  · obtain ⟨n, sz, rfl, _⟩ := h
    rfl
  · obtain ⟨n, sz, rfl, hn, h1, h12, hpow, k⟩ := h
    have hu := hr.units
    refine ⟨_, (pss_cons (ps_set (i := 2) nd rfl (Or.inl rfl) (pe_lst (pa_cons (pe_tup pa_nil) pa_nil)))
        (pss_cons (ps_for PassesOwn.never rfl (pi_range1 rfl B.range (pa_cons (pv 1) pa_nil)) (pg_name (i := 3) nd rfl (Or.inl rfl)) (pss_cons (ps_set (i := 4) nd rfl (Or.inl rfl) (pe_lst pa_nil))
        (pss_cons (ps_for PassesOwn.never rfl (pi_list (pv 2)) (pg_name (i := 5) nd rfl (Or.inl rfl)) (pss_one (ps_for PassesOwn.never rfl (pi_range1 rfl B.range (pa_cons (pv 0) pa_nil)) (pg_name (i := 6) nd rfl (Or.inl rfl)) (pss_one (ps_if (PW.pt (pw_or (pt_cmpR (op_eqK (K := K) hu) (pv 5) (pe_tup pa_nil) (nomark _)) (pw_or1 (pt_cmpR op_gt (pv 6) (pe_ix (r := rIxT K) ix_tup (pv 5) (pe_un un_neg pe_int) (fun _ _ => rfl)) (nomark _))))) (pss_one (ps_expr (pe_bm PySem.F.plainAttrs_list PySem.F.slot_list_append PySem.F.type_list_append mt_append (pv 4) (pa_cons (pe_op (op_catK (K := K)) (pv 5) (pe_tup (pa_cons (pv 6) pa_nil))) pa_nil)))) pss_nil)))))
        (pss_one (ps_set (i := 2) nd rfl (Or.inl rfl) (pv 4))))))
        (pss_one (ps_ret (pe_comp ["back"] [] ⟨rfl, by decide +kernel, by decide +kernel, of_decide_eq_true (by kernel_rfl), fun j hj => (nomatch hj)⟩ rfl (gown_name (by decide)) (pi_list (pe_callB (call_sortedT) rfl B.sorted b_sorted (pa_cons (pe_comp ["one"] [] ⟨rfl, by decide +kernel, by decide +kernel, of_decide_eq_true (by kernel_rfl), fun j hj => (nomatch hj)⟩ rfl (gown_name (by decide)) (pi_list (pv 2)) (fun _ _ _ _ => (pg_name (i := 0) (show (["one"] : List Str).Nodup from by decide +kernel) rfl (Or.inl rfl) (.inr rfl))) (fun _ _ _ _ => pifs_nil) (fun _ _ _ _ => (pe_tupRevTK (K := K) rfl rfl B.tuple rfl B.reversed (pv 0)))) pa_nil))) (fun _ _ _ _ => (pg_name (i := 0) (show (["back"] : List Str).Nodup from by decide +kernel) rfl (Or.inl rfl) (.inr rfl))) (fun _ _ _ _ => pifs_nil) (fun _ _ _ _ => (pe_tupRevTK (K := K) rfl rfl B.tuple rfl B.reversed (pv 0)))))))), ?_⟩
    refine ⟨Nat.zero_le _, fun e0 he0 => ⟨(by show 1 ≤ sizeLine; decide), fun S0 hS0 => ?_⟩⟩
    have ne0 : e0 ≠ S0 := fun z => by rw [← z, upd_same] at hS0; cases hS0
    refine ⟨_, rfl, sz, rfl, by omega, by omega, ?_⟩
    have small : ∀ j, j ≤ sz → ∀ m, m ≤ n ^ j → m < sizeLine := fun j hj m hm => by
      have h0 : n ^ j ≤ 10000000 ∨ n = 0 := by
        rcases Nat.eq_zero_or_pos n with z | z
        · exact .inr z
        · exact .inl (Nat.le_trans (Nat.pow_le_pow_right z hj) hpow)
      rcases h0 with h0 | h0
      · exact Nat.lt_of_le_of_lt (Nat.le_trans hm h0) (by decide)
      · subst h0
        rcases Nat.eq_zero_or_pos j with z | z
        · subst z; exact Nat.lt_of_le_of_lt hm (by decide)
        · rw [Nat.zero_pow z] at hm; exact Nat.lt_of_le_of_lt hm (by decide)
    refine for_range (fun j σ H2 => ∃ (S : Addr) (as : List Addr) (v3 v4 v5 v6 : Option V), σ = [some (.int n), some (.int sz), some (.ref S), v3, v4, v5, v6] ∧ Same H H2 ∧ H2 S = some (.lst (as.map V.ref)) ∧ TupsH H2 as (stg n j))
      ⟨S0, [e0], none, none, none, none, rfl, (upd_fresh he0).trans (upd_fresh hS0), upd_same, .cons (by rw [upd_ne ne0, upd_same]; rfl) .nil⟩ ?_ ?_
    · rintro j σ H2 hj ⟨S, as, v3, v4, v5, v6, rfl, s2, hS, hT⟩
      have hj : j < sz := by omega
      refine ⟨Nat.zero_le _, fun L hL => ?_⟩
      refine ⟨_, rfl, S, rfl, ⟨_, .inl (.inl (upd_fresh hL _ _ hS))⟩, ?_⟩
      have hLas := hT.len
      refine for_list (K := K) (a := S) (xs := as.map V.ref) (fun i σ H3 => ∃ (bs : List Addr) (v5 v6 : Option V), σ = [some (.int n), some (.int sz), some (.ref S), some (.int (0 + (j : Int))), some (.ref L), v5, v6] ∧ Same H2 H3 ∧ H3 L = some (.lst (bs.map V.ref)) ∧ TupsH H3 bs (((stg n j).take i).flatMap (ext n)))
        ⟨[], v5, v6, rfl, upd_fresh hL, upd_same, .nil⟩ (fun i σ H3 _ ⟨_, _, _, _, s3, _⟩ => s3.seq (.inl (.inl hS))) ?_ ?_
      · rintro i y σ H3 hy ⟨bs, v5, v6, rfl, s3, hL3, hT3⟩
        rw [List.getElem?_map] at hy
        obtain ⟨a, ha, rfl⟩ := Option.map_eq_some_iff.mp hy
        obtain ⟨xs, hx, ha2⟩ := hT.at ha
        obtain ⟨hil, hxi⟩ := List.getElem?_eq_some_iff.mp hx
        have ha3 := s3 _ _ ha2
        refine ⟨_, rfl, n, rfl, by omega, by omega, ?_⟩
        have hbs3 := hT3.len
        have tk1 : ∀ m : Nat, (((List.range (m + 1)).filter (okx xs)).map fun t : Nat => xs ++ [(t : Int)]) = (((List.range m).filter (okx xs)).map fun t : Nat => xs ++ [(t : Int)]) ++ (if okx xs m then [xs ++ [(m : Int)]] else []) := fun m => by
          rw [List.range_succ, List.filter_append, List.map_append]
          congr 1
          cases q : okx xs m <;> simp [q]
        have room : ∀ m : Nat, m ≤ n → (((stg n j).take i).flatMap (ext n) ++ ((List.range m).filter (okx xs)).map fun t : Nat => xs ++ [(t : Int)]).length ≤ n ^ (j + 1) := fun m hm => by
          have e1 : ((stg n j).take (i + 1)).flatMap (ext n) = ((stg n j).take i).flatMap (ext n) ++ ext n xs := by rw [take_flat _ _ _ hil, hxi]
          have e2 : ((stg n j).take (i + 1)).flatMap (ext n) ++ ((stg n j).drop (i + 1)).flatMap (ext n) = stg n (j + 1) := by rw [← List.flatMap_append, List.take_append_drop]; rfl
          have e3 := stg_len n (j + 1)
          rw [← e2, e1, List.length_append, List.length_append] at e3
          have e4 : (((List.range m).filter (okx xs)).map fun t : Nat => xs ++ [(t : Int)]).length ≤ (ext n xs).length := by
            unfold ext
            rw [List.length_map, List.length_map]
            have : (List.range m).Sublist (List.range n) := List.range_sublist.mpr hm
            exact (this.filter _).length_le
          rw [List.length_append]
          omega
        refine for_range (fun t σ H4 => ∃ (cs : List Addr) (v6 : Option V), σ = [some (.int n), some (.int sz), some (.ref S), some (.int (0 + (j : Int))), some (.ref L), some (.ref a), v6] ∧ Same H2 H4 ∧ H4 L = some (.lst (cs.map V.ref)) ∧ TupsH H4 cs (((stg n j).take i).flatMap (ext n) ++ ((List.range t).filter (okx xs)).map fun t : Nat => xs ++ [(t : Int)]))
          ⟨bs, v6, rfl, s3, hL3, by simpa using hT3⟩ ?_ ?_
        · rintro t σ H4 ht ⟨cs, v6, rfl, s4, hL4, hT4⟩
          have ht : t < n := by omega
          have ha4 := s4 _ _ ha2
          have hcl := hT4.len
          have hroom : cs.length < sizeLine := by
            refine small (j + 1) (by omega) _ ?_
            rw [hcl]; exact room t (by omega)
          refine ⟨_, rfl, Nat.zero_le _, fun e1 he1 => ?_⟩
          have s5 : Same H4 (upd H4 e1 (.tup [])) := upd_fresh he1
          refine ⟨.t (xs.map Dt.i), .t [], ⟨a, _, rfl, .inl (.inl (s5 _ _ ha4)), atDs_i xs⟩, ⟨e1, [], rfl, .inl (.inl upd_same), trivial⟩, likes_i xs [], ?_, ?_, _, rfl, ?_⟩
          · rw [dep]; omega
          · rw [dep, deps_i]; omega
          have edq : deq (.t (xs.map Dt.i)) (.t []) = decide (xs = []) := by rw [deq]; exact deqs_i xs []
          show if deq (.t (xs.map Dt.i)) (.t []) = true then _ else _
          rw [edq]
          by_cases hx0 : xs = []
          · rw [decide_eq_true hx0]
            refine (iteT ?_ : if true = true then _ else _)
            refine (iteT ?_ : if true = true then _ else _)
            refine ⟨_, rfl, .inl ⟨rfl, _, .inl (.inl (s5 _ _ hL4))⟩, _, rfl, _, rfl, (by show 1 ≤ sizeLine; decide), fun e2 he2 => ?_⟩
            have s6 := s5.trans (upd_fresh he2 (o := .tup [.int (0 + (t : Int))]))
            refine ⟨a, e2, _, _, rfl, rfl, .inl (.inl (s6 _ _ ha4)), .inl (.inl upd_same), (by rw [List.length_map, hx0]; show 0 + 1 ≤ sizeLine; decide), fun _ => ?_, fun z => absurd (by rw [hx0]; rfl) z, fun z => absurd (by rw [hx0]; rfl) z⟩
            refine ⟨L, _, _, rfl, rfl, s6 _ _ hL4, by rw [List.length_map]; exact hroom, ?_⟩
            have ne2 : e2 ≠ L := fun z => by rw [z] at he2; rw [s5 _ _ hL4] at he2; cases he2
            refine ⟨cs ++ [e2], _, rfl, same_put (s4.trans s6) hL, by rw [upd_same, List.map_append]; rfl, ?_⟩
            rw [tk1, ← List.append_assoc]
            have ok : okx xs t = true := by rw [hx0]; rfl
            rw [if_pos ok]
            refine ((hT4.same s6).put (s6 _ _ hL4)).snoc ?_
            rw [upd_ne ne2, upd_same, hx0, Int.zero_add]
            rfl
          · rw [decide_eq_false hx0]
            refine (iteF ?_ : if false = true then _ else _)
            obtain ⟨lst, hl1, hl2⟩ := at_last hx0
            refine ⟨_, rfl, _, rfl, _, rfl, a, _, _, _, rfl, rfl, .inl (.inl (s5 _ _ ha4)), hl2, _, _, rfl, rfl, _, rfl, ite2 (fun h7 => ?_) (fun h7 => ?_)⟩
            · have h7 : lst < (t : Int) := by have := of_decide_eq_true h7; omega
              refine ⟨_, rfl, .inl ⟨rfl, _, .inl (.inl (s5 _ _ hL4))⟩, _, rfl, _, rfl, (by show 1 ≤ sizeLine; decide), fun e2 he2 => ?_⟩
              have s6 := s5.trans (upd_fresh he2 (o := .tup [.int (0 + (t : Int))]))
              refine ⟨a, e2, _, _, rfl, rfl, .inl (.inl (s6 _ _ ha4)), .inl (.inl upd_same), ?_, fun z => absurd (List.map_eq_nil_iff.mp z) hx0, fun _ z => (by cases z), fun _ _ p hp => ?_⟩
              · rw [List.length_map]
                have : xs.length ≤ j := stg_le n j xs (List.mem_of_getElem? hx)
                show xs.length + 1 ≤ sizeLine
                have : (13 : Nat) ≤ sizeLine := by decide
                omega
              have s7 := s6.trans (upd_fresh hp (o := .tup (xs.map V.int ++ [.int (0 + (t : Int))])))
              have nep : p ≠ L := fun z => by rw [z] at hp; rw [s6 _ _ hL4] at hp; cases hp
              refine ⟨L, _, _, rfl, rfl, s7 _ _ hL4, by rw [List.length_map]; exact hroom, ?_⟩
              refine ⟨cs ++ [p], _, rfl, same_put (s4.trans s7) hL, by rw [upd_same, List.map_append]; rfl, ?_⟩
              rw [tk1, ← List.append_assoc]
              have ok : okx xs t = true := by unfold okx; rw [hl1]; exact decide_eq_true h7
              rw [if_pos ok]
              refine ((hT4.same s7).put (s7 _ _ hL4)).snoc ?_
              rw [upd_ne nep, upd_same, Int.zero_add, List.map_append]
              rfl
            · have h7 : ¬ lst < (t : Int) := fun z => h7 (decide_eq_true (by omega))
              refine ⟨cs, _, rfl, s4.trans s5, s5 _ _ hL4, ?_⟩
              have ok : ¬ okx xs t = true := by unfold okx; rw [hl1]; simpa using h7
              rw [tk1, if_neg ok, List.append_nil]
              exact hT4.same s5
        · rintro σ H4 ⟨cs, v6, rfl, s4, hL4, hT4⟩
          refine ⟨cs, _, _, rfl, s4, hL4, ?_⟩
          rw [take_flat _ _ _ hil, hxi]
          have : ((n : Int)).toNat = n := by omega
          rw [this] at hT4
          exact hT4
      · rintro σ H3 ⟨bs, v5, v6, rfl, s3, hL3, hT3⟩
        rw [List.length_map, hLas, List.take_length] at hT3
        exact ⟨_, rfl, L, bs, _, _, _, _, rfl, s2.trans s3, hL3, hT3⟩
    · rintro σ H2 ⟨S, as, v3, v4, v5, v6, rfl, s2, hS, hT⟩
      have hsz : ((sz : Int)).toNat = sz := by omega
      rw [hsz] at hT
      have hlen := hT.len
      have hbound : as.length < sizeLine := small sz (Nat.le_refl _) _ (by rw [hlen]; exact stg_len n sz)
      refine ⟨_, rfl, S, rfl, ⟨_, .inl (.inl hS)⟩, fun D hD => ?_⟩
      refine comps_by as.length (fun i Hi => ∃ bs : List Addr, Same H2 Hi ∧ Hi D = some (.lst (bs.map V.ref)) ∧ TupsH Hi bs (((stg n sz).take i).map List.reverse)) ⟨[], upd_fresh hD, upd_same, .nil⟩ ?_ ?_
      · rintro Hi ⟨bs, s3, hD3, hT3⟩
        rw [hlen, List.take_length] at hT3
        refine ⟨⟨_, s3.seq (.inl (.inl hS)), by rw [List.length_map]; exact Nat.le_refl _⟩, D, bs, _, rfl, .inl (.inl hD3), hT3.at', ?_, fun l cs G hl tg hperm hsort => ?_⟩
        · intro x hx z
          obtain ⟨y, hy, rfl⟩ := List.mem_map.mp hx
          have := stg_pos n sz h1 y hy
          rw [List.reverse_eq_nil_iff.mp z] at this
          simp at this
        have hcl := TupsAt.len tg
        have hbl := hT3.len
        have hTc : TupsH Hi cs G := TupsH.of_zip hcl fun a xs h => hT3.mem (hperm.mem_iff.mp h)
        have hG : G.Perm ((stg n sz).map List.reverse) := by
          have := hperm.map Prod.snd
          rwa [List.map_snd_zip (by omega), List.map_snd_zip (by omega)] at this
        have hGl : cs.length = as.length := by rw [hcl, hG.length_eq, List.length_map, hlen]
        have s4 : Same Hi (upd Hi l (.lst (cs.map V.ref))) := upd_fresh hl
        refine ⟨l, rfl, ⟨_, .inl (.inl upd_same)⟩, fun D2 hD2 => ?_⟩
        have hD20 : Hi D2 = none := s4.free hD2
        refine comps_by cs.length (fun i Hj => ∃ ds : List Addr, Same (upd Hi l (.lst (cs.map V.ref))) Hj ∧ Hj D2 = some (.lst (ds.map V.ref)) ∧ TupsH Hj ds ((G.take i).map List.reverse)) ⟨[], upd_fresh hD2, upd_same, .nil⟩ ?_ ?_
        · rintro Hj ⟨ds, s5, hD5, hT5⟩
          rw [hcl, List.take_length] at hT5
          refine ⟨⟨_, s5.seq (.inl (.inl upd_same)), by rw [List.length_map]; exact Nat.le_refl _⟩, ?_⟩
          exact k D2 Hj ds G (s2.trans (s3.trans (s4.trans s5))) (s2.free (s3.free hD20)) hD5 hT5 hG hsort
        · rintro i Hj hi ⟨ds, s5, hD5, hT5⟩
          have hil : i < G.length := by omega
          refine ⟨⟨_, .ref cs[i], s5.seq (.inl (.inl upd_same)), by rw [List.getElem?_map, List.getElem?_eq_getElem hi]; rfl⟩, ?_⟩
          rintro x H' ⟨rfl, hx⟩
          have ex := hx _ (s5.seq (.inl (.inl upd_same)))
          rw [List.getElem?_map, List.getElem?_eq_getElem hi] at ex
          cases ex
          obtain ⟨xs, hx1, hx2⟩ := hTc.at (List.getElem?_eq_getElem hi)
          obtain ⟨_, hx3⟩ := List.getElem?_eq_some_iff.mp hx1
          unfold gName
          refine yes_go ?_
          refine ⟨_, rfl, cs[i], _, rfl, .inl (.inl (s5 _ _ (s4 _ _ hx2))), fun p hp => ?_⟩
          have nep : p ≠ D2 := fun z => by rw [z] at hp; rw [hD5] at hp; cases hp
          refine ⟨_, by rw [upd_ne nep.symm]; exact hD5, ?_, _, by omega, rfl, hi, ds ++ [p], same_put (s5.trans (upd_fresh hp)) hD2, by rw [upd_same, List.map_append]; rfl, ?_⟩
          · rw [List.length_map, hT5.len, List.length_map, List.length_take]
            omega
          · rw [List.take_succ_eq_append_getElem hil, List.map_append]
            refine ((hT5.same (upd_fresh hp)).put (by rw [upd_ne nep.symm]; exact hD5)).snoc ?_
            rw [upd_ne nep, upd_same, hx3, ← List.map_reverse]
      · rintro i Hi hi ⟨bs, s3, hD3, hT3⟩
        have hil : i < (stg n sz).length := by omega
        refine ⟨⟨_, .ref as[i], s3.seq (.inl (.inl hS)), by rw [List.getElem?_map, List.getElem?_eq_getElem hi]; rfl⟩, ?_⟩
        rintro x H' ⟨rfl, hx⟩
        have ex := hx _ (s3.seq (.inl (.inl hS)))
        rw [List.getElem?_map, List.getElem?_eq_getElem hi] at ex
        cases ex
        obtain ⟨xs, hx1, hx2⟩ := hT.at (List.getElem?_eq_getElem hi)
        obtain ⟨_, hx3⟩ := List.getElem?_eq_some_iff.mp hx1
        unfold gName
        refine yes_go ?_
        refine ⟨_, rfl, as[i], _, rfl, .inl (.inl (s3 _ _ hx2)), fun p hp => ?_⟩
        have nep : p ≠ D := fun z => by rw [z] at hp; rw [hD3] at hp; cases hp
        refine ⟨_, by rw [upd_ne nep.symm]; exact hD3, ?_, _, by omega, rfl, hi, bs ++ [p], same_put (s3.trans (upd_fresh hp)) hD, by rw [upd_same, List.map_append]; rfl, ?_⟩
        · rw [List.length_map, hT3.len, List.length_map, List.length_take]
          omega
        · rw [List.take_succ_eq_append_getElem hil, List.map_append]
          refine ((hT3.same (upd_fresh hp)).put (by rw [upd_ne nep.symm]; exact hD3)).snoc ?_
          rw [upd_ne nep, upd_same, hx3, ← List.map_reverse]
end
end K04

namespace K04
open PySem L2
noncomputable def fI (r : List Nat) : List Int := r.map fun n : Nat => (n : Int)
noncomputable def asI (r : List Nat) : List Int := r.reverse.map fun n : Nat => (n : Int)
theorem lex_tri : ∀ a c : List Int, HT.lexLt a c = false → HT.lexLt c a = false → a = c
  | [], [], _, _ => rfl
  | [], _ :: _, h, _ => by cases h
  | _ :: _, [], _, h => by cases h
  | x :: xs, y :: ys, h1, h2 => by
    rw [HT.lexLt_cons] at h1 h2
    by_cases e : x = y
    · subst e
      rw [if_pos rfl] at h1 h2
      rw [lex_tri xs ys h1 h2]
    · rw [if_neg e] at h1
      rw [if_neg (Ne.symm e)] at h2
      have g1 : ¬ x < y := by simpa using h1
      have g2 : ¬ y < x := by simpa using h2
      omega
theorem lex_num : ∀ {n : Nat} {r q : List Nat}, SH.Fall n r → SH.Fall n q → r.length = q.length → SH.num r < SH.num q → HT.lexLt (fI r) (fI q) = true
  | _, [], [], _, _, _, h => absurd h (by simp)
  | _, [], _ :: _, _, _, hl, _ => by simp at hl
  | _, _ :: _, [], _, _, hl, _ => by simp at hl
  | n, x :: r, y :: q, hr, hq, hl, h => by
    have hl2 : r.length = q.length := by simpa using hl
    have h : SH.C x (r.length + 1) + SH.num r < SH.C y (q.length + 1) + SH.num q := h
    show HT.lexLt ((x : Int) :: fI r) ((y : Int) :: fI q) = true
    rw [HT.lexLt_cons]
    by_cases e : x = y
    · subst e
      rw [if_pos rfl]
      rw [hl2] at h
      exact lex_num hr.2 hq.2 hl2 (by omega)
    · rw [if_neg (by omega)]
      have : x < y := by
        rcases Nat.lt_or_gt_of_ne e with z | z
        · exact z
        · exfalso
          have h1 := SH.num_lt hq.2
          have h2 : SH.C (y + 1) (q.length + 1) ≤ SH.C x (q.length + 1) := SH.C_mono _ z
          rw [SH.C_ss] at h2
          rw [hl2] at h
          omega
      exact decide_eq_true (by omega)
theorem last_asI (r : List Nat) : (asI r).getLast? = r.head?.map fun n : Nat => (n : Int) := by
  unfold asI
  rw [List.getLast?_map, List.getLast?_reverse]
theorem stg_mem (n : Nat) : ∀ (k : Nat) (xs : List Int), xs ∈ stg n k ↔ ∃ r, SH.Fall n r ∧ r.length = k ∧ xs = asI r
  | 0, xs => by
    constructor
    · intro h
      have : xs = [] := by simpa [stg] using h
      subst this
      exact ⟨[], trivial, rfl, rfl⟩
    · rintro ⟨r, _, hl, rfl⟩
      have : r = [] := List.length_eq_zero_iff.mp hl
      subst this
      show asI [] ∈ [[]]
      simp [asI]
  | k + 1, xs => by
    constructor
    · intro h
      obtain ⟨ys, hy, hx⟩ := List.mem_flatMap.mp h
      obtain ⟨t, ht, rfl⟩ := List.mem_map.mp hx
      obtain ⟨r, hr, hl, rfl⟩ := (stg_mem n k ys).mp hy
      obtain ⟨ht1, ht2⟩ := List.mem_filter.mp ht
      have ht1 : t < n := List.mem_range.mp ht1
      refine ⟨t :: r, ⟨ht1, ?_⟩, by rw [List.length_cons, hl], by unfold asI; rw [List.reverse_cons, List.map_append]; rfl⟩
      cases r with
      | nil => trivial
      | cons y r =>
        unfold okx at ht2
        rw [last_asI] at ht2
        have : (y : Int) < (t : Int) := by simpa using ht2
        exact ⟨by omega, hr.2⟩
    · rintro ⟨r, hr, hl, rfl⟩
      cases r with
      | nil => simp at hl
      | cons t r =>
        refine List.mem_flatMap.mpr ⟨asI r, (stg_mem n k _).mpr ⟨r, hr.2.mono (Nat.le_of_lt hr.1), by simpa using hl, rfl⟩, ?_⟩
        refine List.mem_map.mpr ⟨t, List.mem_filter.mpr ⟨List.mem_range.mpr hr.1, ?_⟩, by unfold asI; rw [List.reverse_cons, List.map_append]; rfl⟩
        unfold okx
        rw [last_asI]
        cases r with
        | nil => rfl
        | cons y r => exact decide_eq_true (by have := hr.2.1; show (y : Int) < (t : Int); omega)
theorem ext_nodup (n : Nat) (xs : List Int) : (ext n xs).Nodup := by
  unfold ext
  rw [List.nodup_iff_pairwise_ne, List.pairwise_map]
  refine (List.nodup_iff_pairwise_ne.mp (List.nodup_range.sublist List.filter_sublist)).imp fun {a b} h z => ?_
  have := List.append_cancel_left z
  simp at this
  omega
theorem stg_nodup (n : Nat) : ∀ k, (stg n k).Nodup
  | 0 => by simp [stg]
  | k + 1 => by
    have ih := stg_nodup n k
    show ((stg n k).flatMap (ext n)).Nodup
    generalize stg n k = l at ih
    induction l with
    | nil => simp
    | cons x l ihl =>
      obtain ⟨h1, h2⟩ := List.nodup_cons.mp ih
      rw [List.flatMap_cons]
      refine List.nodup_append.mpr ⟨ext_nodup n x, ihl h2, fun a ha b hb z => ?_⟩
      obtain ⟨y, hy, hb⟩ := List.mem_flatMap.mp hb
      obtain ⟨t, _, rfl⟩ := List.mem_map.mp ha
      obtain ⟨u, _, hu⟩ := List.mem_map.mp hb
      have : x = y := by
        have e : x ++ [(t : Int)] = y ++ [(u : Int)] := by rw [z, hu]
        exact (List.append_inj' e rfl).1
      subst this
      exact h1 hy
noncomputable def inOrder (n k : Nat) : List (List Int) := (List.range (SH.C n k)).map fun m => fI (SH.greedy n k m)
theorem fI_inj {r q : List Nat} (h : fI r = fI q) : r = q := by
  unfold fI at h
  exact (List.map_inj_right (fun a b h => by omega)).mp h
theorem order_nodup (n k : Nat) : (inOrder n k).Nodup := by
  unfold inOrder
  rw [List.nodup_iff_pairwise_ne, List.pairwise_map, List.pairwise_iff_forall_sublist]
  intro a b hab z
  have ha := List.mem_range.mp (hab.subset (by simp : a ∈ [a, b]))
  have hb := List.mem_range.mp (hab.subset (by simp : b ∈ [a, b]))
  have e := fI_inj z
  have h1 := (SH.greedy_ok ha).2
  have h2 := (SH.greedy_ok hb).2
  rw [e, h2] at h1
  have : a < b := by
    have := List.pairwise_iff_forall_sublist.mp (List.pairwise_lt_range (n := SH.C n k)) hab
    exact this
  omega
theorem rev_asI (r : List Nat) : (asI r).reverse = fI r := by
  unfold asI fI
  rw [← List.map_reverse, List.reverse_reverse]
theorem sets_eq {n k : Nat} {G : List (List Int)} (hp : G.Perm ((stg n k).map List.reverse)) (hs : G.Pairwise (fun x y => HT.lexLt y x = false)) : G = inOrder n k := by
  have hpo : ((stg n k).map List.reverse).Perm (inOrder n k) := by
    refine (List.perm_ext_iff_of_nodup ?_ (order_nodup n k)).mpr fun xs => ?_
    · rw [List.nodup_iff_pairwise_ne, List.pairwise_map]
      exact (List.nodup_iff_pairwise_ne.mp (stg_nodup n k)).imp fun {a b} h z => h (List.reverse_inj.mp z)
    · constructor
      · intro h
        obtain ⟨ys, hy, rfl⟩ := List.mem_map.mp h
        obtain ⟨r, hr, hl, rfl⟩ := (stg_mem n k ys).mp hy
        rw [rev_asI]
        exact List.mem_map.mpr ⟨SH.num r, List.mem_range.mpr (by rw [← hl]; exact SH.num_lt hr), by rw [SH.greedy_num hr hl]⟩
      · intro h
        obtain ⟨m, hm, rfl⟩ := List.mem_map.mp h
        have hm := List.mem_range.mp hm
        exact List.mem_map.mpr ⟨asI (SH.greedy n k m), (stg_mem n k _).mpr ⟨_, (SH.greedy_ok hm).1, SH.greedy_len _ _ _, rfl⟩, rev_asI _⟩
  have hso : (inOrder n k).Pairwise (fun x y => HT.lexLt y x = false) := by
    unfold inOrder
    rw [List.pairwise_map, List.pairwise_iff_forall_sublist]
    intro a b hab
    have ha := List.mem_range.mp (hab.subset (by simp : a ∈ [a, b]))
    have hb := List.mem_range.mp (hab.subset (by simp : b ∈ [a, b]))
    have hlt : a < b := List.pairwise_iff_forall_sublist.mp (List.pairwise_lt_range (n := SH.C n k)) hab
    obtain ⟨f1, n1⟩ := SH.greedy_ok ha
    obtain ⟨f2, n2⟩ := SH.greedy_ok hb
    exact Tim.lex_asymm _ _ (lex_num f1 f2 (by rw [SH.greedy_len, SH.greedy_len]) (by rw [n1, n2]; exact hlt))
  exact List.Perm.eq_of_pairwise (fun a b _ _ h1 h2 => lex_tri a b h2 h1) hs hso (hp.trans hpo)
end K04

namespace K04
open PySem L2
noncomputable def natsV (r : List Nat) : List V := r.map fun n : Nat => V.int n
theorem sIx_nat (n d c : Nat) : HT.sIx n d (some (c : Int)) = min c n := by
  unfold HT.sIx
  simp
  omega
theorem cut_from' (xs : List V) (c : Nat) : cutV xs (some (c : Int)) none = xs.drop c := by
  unfold cutV
  rw [sIx_nat]
  show (xs.drop (min c xs.length)).take (xs.length - min c xs.length) = _
  rw [List.take_of_length_le (by rw [List.length_drop]; omega)]
  rcases Nat.le_total c xs.length with h | h
  · rw [Nat.min_eq_left h]
  · rw [Nat.min_eq_right h, List.drop_of_length_le h, List.drop_of_length_le (Nat.le_refl _)]
theorem cut_to' (xs : List V) (c : Nat) : cutV xs none (some (c : Int)) = xs.take c := by
  unfold cutV
  rw [sIx_nat]
  show (xs.drop 0).take (min c xs.length - 0) = _
  rw [List.drop_zero, Nat.sub_zero]
  rcases Nat.le_total c xs.length with h | h
  · rw [Nat.min_eq_left h]
  · rw [Nat.min_eq_right h, List.take_of_length_le h, List.take_of_length_le (Nat.le_refl _)]
noncomputable def SetsAt (H : Hp) (as : List Addr) (k : Nat) (ms : List Nat) : Prop := Paired (fun a m => H a = some (.tup (natsV (SH.st k m)))) as ms
theorem SetsAt.same {H H' : Hp} {as : List Addr} {k : Nat} {ms : List Nat} (h : SetsAt H as k ms) (s : Same H H') : SetsAt H' as k ms := Paired.mapP h fun _ _ z => s _ _ z
theorem SetsAt.put {H : Hp} {as : List Addr} {k : Nat} {ms : List Nat} {L : Addr} {o : List V} {o2 : HO} (h : SetsAt H as k ms) (hL : H L = some (.lst o)) : SetsAt (upd H L o2) as k ms := Paired.mapP h fun a m z => by
  rw [upd_ne (fun e => by rw [e, hL] at z; cases z)]; exact z
theorem SetsAt.take {H : Hp} {k : Nat} : ∀ {as : List Addr} {ms : List Nat} (n : Nat), SetsAt H as k ms → SetsAt H (as.take n) k (ms.take n)
  | _, _, 0, _ => .nil
  | _, _, n + 1, .nil => .nil
  | _, _, n + 1, .cons r t => .cons r (SetsAt.take n t)
theorem SetsAt.at {H : Hp} {as : List Addr} {k : Nat} {ms : List Nat} (h : SetsAt H as k ms) : ∀ {i : Nat} {m : Nat}, ms[i]? = some m → ∃ a, as[i]? = some a ∧ H a = some (.tup (natsV (SH.st k m))) := by
  induction h with
  | nil => intro i m e; simp at e
  | cons r t ih =>
    intro i m e
    cases i with
    | zero => simp at e; subst e; exact ⟨_, rfl, r⟩
    | succ i => exact ih (by simpa using e)
theorem s_up {H : Hp} {t a : Addr} {o o2 : HO} (ht : H t = none) (h : H a = some o) : upd H t o2 a = some o := by rw [upd_ne (ne_of_none h ht)]; exact h
theorem catH_of {K : PySem.W.Frag} {H : Hp} {a b : Addr} {xs ys : List V} {Q : VK} (ha : H a = some (.tup xs)) (hb : H b = some (.tup ys)) (hz : xs.length + ys.length ≤ sizeLine) (q : ∀ t H2, Same H H2 → H2 t = some (.tup (xs ++ ys)) → Q (.ref t) H2) : rCatA K (.ref a) (.ref b) H Q :=
  ⟨a, b, xs, ys, rfl, rfl, .inl (.inl ha), .inl (.inl hb), hz, fun e => q b H (fun _ _ z => z) (by rw [e, List.nil_append]; exact hb), fun _ e => q a H (fun _ _ z => z) (by rw [e, List.append_nil]; exact ha), fun _ _ p hp => q p _ (upd_fresh hp) upd_same⟩
section
variable {P : Program} {w : World} {K : PySem.W.Frag} {mg : Str → Option Value} {base : Heap}
end
end K04

namespace K04
open PySem L2 Exc
structure Tx (mg : Str → Option Value) : Prop where
  msets : ∃ t, mg "MOST_SETS" = some (.int 200 t)
  mthings : ∃ t, mg "MOST_THINGS_IN_A_MEMBER" = some (.int 6 t)
  things : ∃ t, mg "THINGS_OF_FAMILIES" = some (.int 12 t)
noncomputable def famGo (n : Nat) : List (List Int) → List (List Int) → Bool
  | _, [] => true
  | seen, x :: r => if x.length < 1 ∨ 6 < x.length ∨ x.length ≠ n then false else if x ∈ seen ∨ rises 12 (-1) x = false then false else famGo n (seen ++ [x]) r
noncomputable def isFam (F : List (List Int)) : Bool := decide (F.length ≤ 200) && famGo (F.headD []).length [] F
noncomputable def spIF : Sp := fun vs H Q _ => ∃ (f : Addr) (as : List Addr) (F : List (List Int)), vs = [.ref f] ∧ H f = some (.lst (as.map V.ref)) ∧ TupsH H as F ∧ as.length ≤ 100000 ∧ ∀ H2, Same H H2 → Q (.bl (isFam F)) H2
noncomputable def spCk (aF : Addr) : Sp := fun vs H Q E => ∃ (f : Addr) (as : List Addr) (F : List (List Int)), vs = [.ref f] ∧ H f = some (.lst (as.map V.ref)) ∧ TupsH H as F ∧ as.length ≤ 100000 ∧ ((isFam F = false ∧ ∀ H2, Same H H2 → E (.ref aF) none H2) ∨ (isFam F = true ∧ ∀ H2, Same H H2 → Q .non H2))
noncomputable def kvs1 (S : List (List Int)) : List (List Key × V) := S.map fun x => (x.map Sum.inl, V.bl true)
theorem inl_inj : ∀ {x y : List Int}, x.map (Sum.inl : Int → Key) = y.map Sum.inl → x = y
  | [], [], _ => rfl
  | [], _ :: _, h => by simp at h
  | _ :: _, [], h => by simp at h
  | a :: x, b :: y, h => by
    rw [List.map_cons, List.map_cons] at h
    injection h with h1 h2
    injection h1 with h3
    rw [h3, inl_inj h2]
theorem kV_inl (x : List Int) : (x.map (Sum.inl : Int → Key)).map kV = x.map V.int := by rw [List.map_map]; rfl
theorem val1 (x : List Int) : ∀ S : List (List Int), (valV (kvs1 S) (x.map Sum.inl)).isSome = decide (x ∈ S)
  | [] => by simp [kvs1, valV_nil]
  | y :: S => by
    have ih := val1 x S
    unfold kvs1 at ih ⊢
    rw [List.map_cons]
    by_cases e : y = x
    · subst e
      rw [valV_pos (p := (y.map Sum.inl, V.bl true)) rfl]
      simp
    · rw [valV_neg (p := (y.map Sum.inl, V.bl true)) (fun z => e (inl_inj z)), ih]
      rw [Bool.eq_iff_iff, decide_eq_true_iff, decide_eq_true_iff, List.mem_cons]
      exact ⟨.inr, fun h => h.elim (fun z => absurd z.symm e) id⟩
theorem put1 (x : List Int) (S : List (List Int)) : putK (kvs1 S) (x.map Sum.inl) (.bl true) = kvs1 (if x ∈ S then S else S ++ [x]) := by
  have h := val1 x S
  unfold putK
  rw [valV_any, h]
  by_cases e : x ∈ S
  · rw [if_pos (decide_eq_true e), if_pos e]
    unfold kvs1
    rw [List.map_map]
    refine List.map_congr_left fun y _ => ?_
    show (if (y.map (Sum.inl : Int → Key)) = x.map Sum.inl then (y.map Sum.inl, V.bl true) else (y.map Sum.inl, V.bl true)) = _
    split <;> rfl
  · rw [if_neg (by simpa using e), if_neg e]
    unfold kvs1
    rw [List.map_append]; rfl
theorem kvs1_len (S : List (List Int)) : (kvs1 S).length = S.length := by simp [kvs1]
section
variable {P : Program} {w : World} {K : PySem.W.Frag} {mg : Str → Option Value} {base : Heap}
theorem sc_is_family : FnScope ["family", "held", "one"] ["family"] (defScope (top 12)) := ⟨rfl, rfl, rfl, by decide +kernel, rfl, by decide +kernel, by decide +kernel⟩
theorem ok_is_family {f : Addr} {fd : FuncData} (F : Fun K "is_family" "is_family" (top 12) f fd) (B : Bt mg) (T : Tx mg) (c_rises_below : Cal P w K mg base "rises_below" 1 (spRb K)) : FnOk P w K mg base CX0 3 f fd ["family"] spIF := by
  have nd := sc_is_family.nd
  refine F.ok sc_is_family (fun vs H Q E h => ?_) (fun cdv A outer s H vs Q E hr h => ?_)
  · obtain ⟨p, as, F, rfl, _⟩ := h
    rfl
  · obtain ⟨p, as, F, rfl, hp, ht, hal, k⟩ := h
    have hu := hr.units
    have hu1 := room1 hr
    have hlen := ht.len
    refine ⟨_, (pss_cons (ps_if (pt_cmpR op_gt (pe_callB call_len_seq rfl B.len PySem.boot_len (pa_cons (pv 0) pa_nil)) (pe_globI rfl T.msets) (nomark _)) (pss_one (ps_ret pe_bl)) pss_nil)
        (pss_cons (ps_set (i := 1) nd rfl (Or.inl rfl) pe_dnewT)
        (pss_cons (ps_for PassesOwn.never rfl (pi_list (pv 0)) (pg_name (i := 2) nd rfl (Or.inl rfl)) (pss_cons (ps_if (PW.pt (pw_or (pt_cmpR op_lt (pe_callB call_len_seq rfl B.len PySem.boot_len (pa_cons (pv 2) pa_nil)) pe_int (nomark _)) (pw_or (pt_cmpR op_gt (pe_callB call_len_seq rfl B.len PySem.boot_len (pa_cons (pv 2) pa_nil)) (pe_globI rfl T.mthings) (nomark _)) (pw_or1 (pt_cmpR op_ne (pe_callB call_len_seq rfl B.len PySem.boot_len (pa_cons (pv 2) pa_nil)) (pe_callB call_len_seq rfl B.len PySem.boot_len (pa_cons (pe_ix (r := rIxL K) ix_list (pv 0) pe_int (fun _ _ => rfl)) pa_nil)) (nomark _)))))) (pss_one (ps_ret pe_bl)) pss_nil)
        (pss_cons (ps_if (PW.pt (pw_or (pt_cmp (pc_din hu1 (pv 2) (pv 1))) (pw_or1 (pt_not (pt_val (pe_cal c_rises_below (hr.mono (by decide)) rfl (pa_cons (pv 2) (pa_cons (pe_globI rfl T.things) pa_nil)))))))) (pss_one (ps_ret pe_bl)) pss_nil)
        (pss_one (ps_dput hu1 (pv 1) (pv 2) pe_bl rfl)))))
        (pss_one (ps_ret pe_bl))))), ?_⟩
    refine ⟨_, rfl, p, _, rfl, .inl (.inl (.inl hp)), _, _, rfl, rfl, _, rfl, ite2 (fun h1 => ?_) (fun h1 => ?_)⟩
    · have h1 : 200 < F.length := by
        have : (200 : Int) < ((as.map V.ref).length : Int) := by simpa using h1
        rw [List.length_map, hlen] at this; omega
      have := k H (fun _ _ e => e)
      unfold isFam at this
      rw [decide_eq_false (by omega)] at this
      exact this
    have h1 : F.length ≤ 200 := by
      have : ¬ (200 : Int) < ((as.map V.ref).length : Int) := by simpa using h1
      rw [List.length_map, hlen] at this; omega
    have k : ∀ H2, Same H H2 → Q (.bl (famGo (F.headD []).length [] F)) H2 := fun H2 s2 => by
      have := k H2 s2
      unfold isFam at this
      rw [decide_eq_true h1] at this
      exact this
    refine fun D hD => ?_
    have hpD : p ≠ D := ne_of_none hp hD
    refine ⟨_, rfl, p, rfl, ⟨_, .inl (.inl (by rw [upd_ne hpD]; exact hp))⟩, ?_⟩
    refine for_list (K := K) (a := p) (xs := as.map V.ref) (fun i σ H2 => ∃ v : Option V, σ = [some (.ref p), some (.ref D), v] ∧ H2 = upd H D (.dT (kvs1 (F.take i))) ∧ famGo (F.headD []).length [] F = famGo (F.headD []).length (F.take i) (F.drop i)) ⟨none, rfl, rfl, rfl⟩ (fun i σ H2 _ ⟨_, _, e, _⟩ => .inl (.inl (by rw [e, upd_ne hpD]; exact hp))) ?_ ?_
    · rintro i y σ H2 hy ⟨v, rfl, rfl, e⟩
      rw [List.getElem?_map] at hy
      obtain ⟨a, ha, rfl⟩ := Option.map_eq_some_iff.mp hy
      obtain ⟨xs, hx, hH⟩ := ht.at ha
      have hi : i < F.length := (List.getElem?_eq_some_iff.mp hx).1
      have haD : a ≠ D := ne_of_none hH hD
      have hH2 : (upd H D (.dT (kvs1 (F.take i)))) a = some (.tup (xs.map V.int)) := by rw [upd_ne haD]; exact hH
      have hp2 : (upd H D (.dT (kvs1 (F.take i)))) p = some (.lst (as.map V.ref)) := by rw [upd_ne hpD]; exact hp
      obtain ⟨a0, ha0⟩ : ∃ a0, as[0]? = some a0 := ⟨as[0]'(by omega), List.getElem?_eq_getElem (by omega)⟩
      obtain ⟨x0, hx0, hH0⟩ := ht.at ha0
      have ha0D : a0 ≠ D := ne_of_none hH0 hD
      have hx0h : F.headD [] = x0 := by cases F with | nil => simp at hx0 | cons z F => simpa using hx0
      have ed : F.drop i = xs :: F.drop (i + 1) := by
        rw [List.drop_eq_getElem_cons hi]
        have := List.getElem?_eq_getElem hi
        rw [hx] at this
        rw [Option.some.inj this]
      rw [ed, famGo, hx0h] at e
      have sk : Same H (upd H D (.dT (kvs1 (F.take i)))) := upd_fresh hD
      have no : ∀ (hc : xs.length < 1 ∨ 6 < xs.length ∨ xs.length ≠ x0.length), Q (.bl false) (upd H D (.dT (kvs1 (F.take i)))) := fun hc => by
        have := k _ sk
        rw [hx0h, e, if_pos hc] at this
        exact this
      refine ⟨_, rfl, a, _, rfl, .inr (.inl (.inl hH2)), _, _, rfl, rfl, _, rfl, ite2 (fun h2 => iteT ?_) (fun h2 => ?_)⟩
      · exact no (.inl (by have : ((xs.map V.int).length : Int) < 1 := by simpa using h2
                           rw [List.length_map] at this; omega))
      refine ⟨_, rfl, a, _, rfl, .inr (.inl (.inl hH2)), _, _, rfl, rfl, _, rfl, ite2 (fun h3 => iteT ?_) (fun h3 => ?_)⟩
      · exact no (.inr (.inl (by have : (6 : Int) < ((xs.map V.int).length : Int) := by simpa using h3
                                 rw [List.length_map] at this; omega)))
      have hat0 : atI (as.map V.ref) (0 : Int) = some (.ref a0) := at_of (i := 0) (by rw [List.getElem?_map, ha0]; rfl)
      refine ⟨_, rfl, a, _, rfl, .inr (.inl (.inl hH2)), _, rfl, p, _, _, _, rfl, rfl, .inl (.inl hp2), hat0, a0, _, rfl, .inr (.inl (.inl (by rw [upd_ne ha0D]; exact hH0))), rfl, _, rfl, ite2 (fun h4 => ?_) (fun h4 => ?_)⟩
      · refine no (.inr (.inr fun z => ?_))
        rw [List.length_map, List.length_map, z] at h4
        simp at h4
      have hn : ¬ (xs.length < 1 ∨ 6 < xs.length ∨ xs.length ≠ x0.length) := by
        have q2 : ¬ ((xs.map V.int).length : Int) < 1 := by simpa using h2
        have q3 : ¬ (6 : Int) < ((xs.map V.int).length : Int) := by simpa using h3
        rw [List.length_map] at q2 q3
        rintro (z | z | z)
        · omega
        · omega
        · refine absurd h4 ?_
          rw [List.length_map, List.length_map]
          simp; omega
      rw [if_neg hn] at e
      have no2 : ∀ (hc : xs ∈ F.take i ∨ rises 12 (-1) xs = false), Q (.bl false) (upd H D (.dT (kvs1 (F.take i)))) := fun hc => by
        have := k _ sk
        rw [hx0h, e, if_pos hc] at this
        exact this
      have hkey : (upd H D (.dT (kvs1 (F.take i)))) a = some (.tup ((xs.map (Sum.inl : Int → Key)).map kV)) := by rw [kV_inl]; exact hH2
      refine ⟨_, rfl, _, rfl, D, _, rfl, DGet.t upd_same hkey, _, rfl, ?_⟩
      rw [val1]
      refine ite2 (fun h5 => iteT ?_) (fun h5 => ?_)
      · exact no2 (.inl (of_decide_eq_true h5))
      refine ⟨_, rfl, a, xs, 12, rfl, .inl (.inl hH2), _, rfl, ?_⟩
      cases hrb : rises 12 (-1) xs with
      | false => exact iteT (no2 (.inr hrb))
      | true =>
        refine iteF ?_
        have h5 : xs ∉ F.take i := fun z => absurd (decide_eq_true z) (by simpa using h5)
        rw [if_neg (by rintro (z | z); exact h5 z; rw [hrb] at z; cases z)] at e
        refine ⟨_, rfl, _, rfl, D, _, rfl, DPut.t upd_same hkey (by rw [kvs1_len, List.length_take]; exact small1000 (by omega)), some (.ref a), rfl, ?_, ?_⟩
        · rw [put1, if_neg h5, upd_upd, List.take_add_one, hx]; rfl
        · rw [hx0h, e, List.take_add_one, hx]; rfl
    · rintro σ H2 ⟨v, rfl, rfl, e⟩
      have hl : (as.map V.ref).length = F.length := by rw [List.length_map, hlen]
      rw [hl, List.drop_length, famGo] at e
      have := k _ (upd_fresh hD (o := .dT (kvs1 (F.take (as.map V.ref).length))))
      rw [e] at this
      exact this
theorem sc_check_family : FnScope ["family"] ["family"] (defScope (top 13)) := ⟨rfl, rfl, rfl, by decide +kernel, rfl, by decide +kernel, by decide +kernel⟩
theorem ok_check_family {f : Addr} {fd : FuncData} (F : Fun K "check_family" "check_family" (top 13) f fd) {aBadFamily : Addr} (XBadFamily : XCls K aBadFamily [.type "ValueError", .type "Exception", .type "BaseException", .type "object"] "ValueError.__new__") (MBadFamily : mg "BadFamily" = some (.ref aBadFamily)) (c_is_family : Cal P w K mg base "is_family" 3 spIF) : FnOk P w K mg base (CX1 P w) 5 f fd ["family"] (spCk aBadFamily) := by
  have nd := sc_check_family.nd
  refine F.okX sc_check_family (fun vs H Q E h => ?_) (fun cdv A outer s H vs Q E hr h => ?_)
  · obtain ⟨p, as, F, rfl, _⟩ := h
    rfl
  · obtain ⟨p, as, F, rfl, hp, ht, hal, h9⟩ := h
    refine ⟨_, (pss_one (ps_if (pt_not (pt_val (pe_cal c_is_family (hr.mono (by decide)) rfl (pa_cons (pv 0) pa_nil)))) (pss_one (ps_raise XBadFamily MBadFamily rfl pe_str)) pss_nil)), ?_⟩
    refine ⟨_, rfl, p, as, F, rfl, hp, ht, hal, fun H2 s2 => ⟨_, rfl, ?_⟩⟩
    rcases h9 with ⟨hF, k⟩ | ⟨hF, k⟩
    · rw [hF]
      exact iteT (k H2 s2)
    · rw [hF]
      exact iteF (k H2 s2)
end
end K04

namespace K04
open PySem L2 Exc
noncomputable def spIO : Sp := fun vs H Q _ => ∃ (p : Addr) (as : List Addr) (G : List (List Int)), vs = [.ref p] ∧ H p = some (.lst (as.map V.ref)) ∧ TupsH H as G ∧ (as.length < 2 ∨ ∀ x ∈ G, x ≠ []) ∧
  ∀ (l : Addr) (H2 : Hp) (bs : List Addr) (F2 : List (List Int)), Same H H2 → H l = none → H2 l = some (.lst (bs.map V.ref)) → TupsH H2 bs F2 → F2.Perm G → F2.Pairwise (fun x y => HT.lexLt y.reverse x.reverse = false) → Q (.ref l) H2
theorem small10k {n : Nat} (h : n < 10000) : n < sizeLine := by rw [sizeLine_eq]; omega
noncomputable def cutI (x : List Int) (p : Nat) : List Int := x.take p ++ x.drop (p + 1)
noncomputable def spSh (aF : Addr) : Sp := fun vs H Q E => ∃ (f : Addr) (as : List Addr) (F : List (List Int)), vs = [.ref f] ∧ H f = some (.lst (as.map V.ref)) ∧ TupsH H as F ∧ as.length ≤ 100000 ∧ ((isFam F = false ∧ ∀ H2, Same H H2 → E (.ref aF) none H2) ∨ (isFam F = true ∧
  ∀ (l : Addr) (H2 : Hp) (bs : List Addr) (G : List (List Int)), Same H H2 → H l = none → H2 l = some (.lst (bs.map V.ref)) → TupsH H2 bs G → G.Nodup → (∀ y, y ∈ G ↔ ∃ x ∈ F, ∃ p, p < x.length ∧ y = cutI x p) → G.Pairwise (fun x y => HT.lexLt y.reverse x.reverse = false) → Q (.ref l) H2))
theorem fam_go : ∀ {n : Nat} {F seen : List (List Int)}, famGo n seen F = true → ∀ x ∈ F, x.length = n ∧ 1 ≤ x.length ∧ x.length ≤ 6
  | _, [], _, _, x, hx => nomatch hx
  | n, y :: F, seen, h, x, hx => by
    rw [famGo] at h
    split at h
    · cases h
    · rename_i h1
      split at h
      · cases h
      · rcases List.mem_cons.mp hx with rfl | hx
        · omega
        · exact fam_go h x hx
theorem fam_len {F : List (List Int)} (h : isFam F = true) : F.length ≤ 200 ∧ ∃ n, ∀ x ∈ F, x.length = n ∧ 1 ≤ x.length ∧ x.length ≤ 6 := by
  unfold isFam at h
  rw [Bool.and_eq_true] at h
  exact ⟨of_decide_eq_true h.1, _, fam_go h.2⟩
theorem TupsH.zip {H : Hp} {as : List Addr} {F : List (List Int)} (h : TupsH H as F) : ∀ {a : Addr} {xs : List Int}, (a, xs) ∈ as.zip F → H a = some (.tup (xs.map V.int)) := by
  induction h with
  | nil => intro a xs e; simp at e
  | cons r t ih =>
    intro a xs e
    rw [List.zip_cons_cons] at e
    rcases List.mem_cons.mp e with e | e
    · cases e; exact r
    · exact ih e
theorem TupsH.unzip {H : Hp} : ∀ {as : List Addr} {F : List (List Int)}, as.length = F.length → (∀ a xs, (a, xs) ∈ as.zip F → H a = some (.tup (xs.map V.int))) → TupsH H as F
  | [], [], _, _ => .nil
  | [], _ :: _, h, _ => by simp at h
  | _ :: _, [], h, _ => by simp at h
  | a :: as, x :: F, h, q => .cons (q a x (by rw [List.zip_cons_cons]; exact List.mem_cons_self)) (TupsH.unzip (by simpa using h) fun b y e => q b y (by rw [List.zip_cons_cons]; exact List.mem_cons_of_mem _ e))
theorem TupsH.tat {K : PySem.W.Frag} {H : Hp} {as : List Addr} {F : List (List Int)} (h : TupsH H as F) : TupsAt K H as F := by
  induction h with
  | nil => exact .nil
  | cons r t ih => exact .cons (.inl (.inl r)) ih
theorem cutI_len {x : List Int} {p : Nat} (h : p < x.length) : (cutI x p).length + 1 = x.length := by
  unfold cutI
  rw [List.length_append, List.length_take, List.length_drop]
  omega
section
variable {P : Program} {w : World} {K : PySem.W.Frag} {mg : Str → Option Value} {base : Heap}
theorem sc_from_the_greatest : FnScope ["one"] ["one"] (defScope (top 14)) := ⟨rfl, rfl, rfl, by decide +kernel, rfl, by decide +kernel, by decide +kernel⟩
theorem ok_from_the_greatest {f : Addr} {fd : FuncData} (F : Fun K "from_the_greatest" "from_the_greatest" (top 14) f fd) : FnOk P w K mg base CX0 1 f fd ["one"] (spRev K) := by
  have nd := sc_from_the_greatest.nd
  refine F.ok sc_from_the_greatest (fun vs H Q E h => ?_) (fun cdv A outer s H vs Q E hr h => ?_)
  · obtain ⟨p, xs, rfl, _⟩ := h
    rfl
  · obtain ⟨p, xs, rfl, hq, k⟩ := h
    refine ⟨_, (pss_one (ps_ret (pe_sliceRev (pv 0) (pe_un un_neg pe_int)))), ?_⟩
    refine ⟨_, rfl, _, rfl, rfl, p, _, rfl, hq, fun t ht => k t _ (upd_fresh ht) ?_⟩
    rw [upd_same, List.map_reverse]
theorem sc_in_order : FnScope ["members"] ["members"] (defScope (top 15)) := ⟨rfl, rfl, rfl, by decide +kernel, rfl, by decide +kernel, by decide +kernel⟩
theorem ok_in_order {f : Addr} {fd : FuncData} (F : Fun K "in_order" "in_order" (top 15) f fd) (B : Bt mg) (c_from_the_greatest : Cal P w K mg base "from_the_greatest" 1 (spRev K)) : FnOk P w K mg base CX0 3 f fd ["members"] spIO := by
  have nd := sc_in_order.nd
  refine F.ok sc_in_order (fun vs H Q E h => ?_) (fun cdv A outer s H vs Q E hr h => ?_)
  · obtain ⟨p, as, G, rfl, _⟩ := h
    rfl
  · obtain ⟨p, as, G, rfl, hp, ht, hne, k⟩ := h
    refine ⟨_, (pss_one (ps_ret (pe_sortedKey rfl c_from_the_greatest (hr.mono (by decide)) rfl B.sorted rfl (pv 0)))), ?_⟩
    refine ⟨_, rfl, p, as, G, rfl, .inl (.inl hp), ht.tat, hne, fun l H2 bs F2 s2 hl0 hl hpm hbl hs => ?_⟩
    refine k l H2 bs F2 s2 hl0 hl (TupsH.unzip hbl fun a xs e => s2 _ _ (ht.zip (hpm.mem_iff.mp e))) ?_ hs
    have := hpm.map Prod.snd
    rwa [List.map_snd_zip (by omega), List.map_snd_zip (by rw [ht.len]; exact Nat.le_refl _)] at this
theorem sc_shadow : FnScope ["family", "thrown", "one", "place"] ["family"] (defScope (top 16)) := ⟨rfl, rfl, rfl, by decide +kernel, rfl, by decide +kernel, by decide +kernel⟩
theorem ok_shadow {f : Addr} {fd : FuncData} (F : Fun K "shadow" "shadow" (top 16) f fd) {aBadFamily : Addr} (B : Bt mg) (c_check_family : CalX P w K mg base "check_family" 5 (spCk aBadFamily)) (c_in_order : Cal P w K mg base "in_order" 3 spIO) : FnOk P w K mg base (CX1 P w) 7 f fd ["family"] (spSh aBadFamily) := by
  have nd := sc_shadow.nd
  refine F.okX sc_shadow (fun vs H Q E h => ?_) (fun cdv A outer s H vs Q E hr h => ?_)
  · obtain ⟨p, as, F, rfl, _⟩ := h
    rfl
  · obtain ⟨p, as, F, rfl, hp, ht, h8, h9⟩ := h
    have hu1 := room1 hr
    have hal := ht.len
    refine ⟨_, (pss_cons (ps_expr (pe_calY c_check_family (hr.mono (by decide)) rfl (pa_cons (pv 0) pa_nil)))
        (PSs.nox (pss_cons (ps_set (i := 1) nd rfl (Or.inl rfl) pe_dnewT)
        (pss_cons (ps_for PassesOwn.never rfl (pi_list (pv 0)) (pg_name (i := 2) nd rfl (Or.inl rfl)) (pss_one (ps_for PassesOwn.never rfl (pi_range1 rfl B.range (pa_cons (pe_callB call_len_seq rfl B.len PySem.boot_len (pa_cons (pv 2) pa_nil)) pa_nil)) (pg_name (i := 3) nd rfl (Or.inl rfl)) (pss_one (ps_dput hu1 (pv 1) (pe_op (op_catK (K := K)) (pe_slice (r := rSlT K) sl_tup (pv 2) po_none (po_some (pv 3))) (pe_slice (r := rSlT K) sl_tup (pv 2) (po_some (pe_op op_add (pv 3) pe_int)) po_none)) pe_bl rfl)))))
        (pss_one (ps_ret (pe_cal c_in_order (hr.mono (by decide)) rfl (pa_cons (pe_callTy (call_listDT rfl) rfl B.list b_list (pa_cons (pv 1) pa_nil)) pa_nil)))))))), ?_⟩
    rcases h9 with ⟨hF, k⟩ | ⟨hF, k⟩
    · exact ⟨_, rfl, p, as, F, rfl, hp, ht, h8, .inl ⟨hF, k⟩⟩
    obtain ⟨h200, n, hn⟩ := fam_len hF
    refine ⟨_, rfl, p, as, F, rfl, hp, ht, by omega, .inr ⟨hF, fun H1 s1 => ?_⟩⟩
    refine fun D hD => ?_
    have hp1 := s1 _ _ hp
    have hD0 : H D = none := s1.free hD
    have hpD : p ≠ D := ne_of_none hp1 hD
    refine ⟨_, rfl, p, rfl, ⟨_, .inl (.inl (by rw [upd_ne hpD]; exact hp1))⟩, ?_⟩
    refine for_list (K := K) (a := p) (xs := as.map V.ref) (fun i σ H2 => ∃ (v v2 : Option V) (S : List (List Int)), σ = [some (.ref p), some (.ref D), v, v2] ∧ Same H H2 ∧ H2 D = some (.dT (kvs1 S)) ∧ S.Nodup ∧ (∀ y, y ∈ S ↔ ∃ x ∈ F.take i, ∃ p, p < x.length ∧ y = cutI x p) ∧ S.length ≤ 6 * i)
      ⟨none, none, [], rfl, s1.trans (upd_fresh hD), upd_same, List.nodup_nil, fun y => ⟨fun h => (nomatch h), fun ⟨x, hx, _⟩ => by simp at hx⟩, Nat.zero_le _⟩ (fun i σ H2 _ ⟨_, _, _, _, e, _⟩ => .inl (.inl (e _ _ hp))) ?_ ?_
    · rintro i y σ H2 hy ⟨v, v2, S, rfl, s2, hS, hnd, hmem, hsl⟩
      rw [List.getElem?_map] at hy
      obtain ⟨a, ha, rfl⟩ := Option.map_eq_some_iff.mp hy
      obtain ⟨xs, hx, hH⟩ := ht.at ha
      have hi : i < F.length := (List.getElem?_eq_some_iff.mp hx).1
      have hxl := hn xs (List.mem_of_getElem? hx)
      refine ⟨_, rfl, a, _, rfl, .inr (.inl (.inl (s2 _ _ hH))), _, rfl, by omega, by simp only [List.length_map]; omega, ?_⟩
      refine for_range (fun j σ H3 => ∃ (v2 : Option V) (S : List (List Int)), σ = [some (.ref p), some (.ref D), some (.ref a), v2] ∧ Same H H3 ∧ H3 D = some (.dT (kvs1 S)) ∧ S.Nodup ∧ (∀ y, y ∈ S ↔ (∃ x ∈ F.take i, ∃ p, p < x.length ∧ y = cutI x p) ∨ ∃ p, p < j ∧ y = cutI xs p) ∧ S.length ≤ 6 * i + j)
        ⟨v2, S, rfl, s2, hS, hnd, fun y => ⟨fun h => .inl ((hmem y).mp h), fun h => h.elim (hmem y).mpr fun ⟨p, hp, _⟩ => absurd hp (Nat.not_lt_zero _)⟩, by omega⟩ ?_ ?_
      · rintro j σ H3 hj ⟨v2, S, rfl, s3, hS3, hnd3, hmem3, hsl3⟩
        have hj : j < xs.length := by simpa using hj
        have ha3 := s3 _ _ hH
        have ej : (0 : Int) + (j : Int) = (j : Int) := by omega
        have ej1 : (0 : Int) + (j : Int) + 1 = ((j + 1 : Nat) : Int) := by omega
        refine ⟨_, rfl, _, rfl, _, rfl, _, rfl, a, _, rfl, .inl (.inl ha3), ?_, fun t1 ht1 => ?_⟩
        · rintro ⟨_, z⟩
          have z : HT.sIx (xs.map V.int).length (xs.map V.int).length (some ((0 : Int) + (j : Int))) = (xs.map V.int).length := z
          rw [ej, sIx_nat, List.length_map] at z
          omega
        have s4 := upd_fresh ht1 (o := .tup (cutV (xs.map V.int) none (some ((0 : Int) + (j : Int)))))
        refine ⟨_, rfl, _, rfl, _, _, rfl, rfl, _, rfl, a, _, rfl, .inl (.inl (s4 _ _ ha3)), ?_, fun t2 ht2 => ?_⟩
        · rintro ⟨z, _⟩
          have z : HT.sIx (xs.map V.int).length 0 (some ((0 : Int) + (j : Int) + 1)) = 0 := z
          rw [ej1, sIx_nat, List.length_map] at z
          omega
        have s5 := s4.trans (upd_fresh ht2 (o := .tup (cutV (xs.map V.int) (some ((0 : Int) + (j : Int) + 1)) none)))
        refine catH_of (s_up ht2 upd_same) upd_same ?_ fun t3 H5 s6 e6 => ?_
        · rw [ej1, ej, cut_to', cut_from', List.length_take, List.length_drop, List.length_map]
          exact Nat.le_of_lt (small1000 (by omega))
        rw [ej1, ej, cut_to', cut_from', ← List.map_take, ← List.map_drop, ← List.map_append] at e6
        have e6 : H5 t3 = some (.tup (((cutI xs j).map (Sum.inl : Int → Key)).map kV)) := by rw [kV_inl]; exact e6
        have hS5 : H5 D = some (.dT (kvs1 S)) := s6 _ _ (s5 _ _ hS3)
        have hD5 : H D = none := hD0
        refine ⟨D, _, rfl, DPut.t hS5 e6 (by rw [kvs1_len]; exact small10k (by omega)), ?_⟩
        rw [put1]
        refine ⟨_, _, rfl, same_put ((s3.trans s5).trans s6) hD0, upd_same, ?_, fun y => ?_, ?_⟩
        · split
          · exact hnd3
          · rename_i hni
            exact List.nodup_append.mpr ⟨hnd3, by simp, fun a ha b hb => by rw [List.mem_singleton.mp hb]; exact fun z => hni (z ▸ ha)⟩
        · have m1 : y ∈ (if cutI xs j ∈ S then S else S ++ [cutI xs j]) ↔ y ∈ S ∨ y = cutI xs j := by
            split
            · exact ⟨.inl, fun h => h.elim id fun e => by rw [e]; assumption⟩
            · rw [List.mem_append, List.mem_singleton]
          rw [m1, hmem3 y]
          constructor
          · rintro ((h | ⟨p, hp, e⟩) | e)
            · exact .inl h
            · exact .inr ⟨p, by omega, e⟩
            · exact .inr ⟨j, by omega, e⟩
          · rintro (h | ⟨p, hp, e⟩)
            · exact .inl (.inl h)
            · by_cases q : p = j
              · subst q; exact .inr e
              · exact .inl (.inr ⟨p, by omega, e⟩)
        · split
          · omega
          · rw [List.length_append, List.length_singleton]; omega
      · rintro σ H3 ⟨v2, S, rfl, s3, hS3, hnd3, hmem3, hsl3⟩
        have el : (((xs.map V.int).length : Nat) : Int).toNat = xs.length := by simp
        rw [el] at hmem3 hsl3
        refine ⟨_, v2, S, rfl, s3, hS3, hnd3, fun y => ?_, by omega⟩
        rw [hmem3 y, List.take_add_one, hx]
        constructor
        · rintro (⟨x, h1, h2⟩ | h)
          · exact ⟨x, List.mem_append_left _ h1, h2⟩
          · exact ⟨xs, by simp, h⟩
        · rintro ⟨x, h1, h2⟩
          rcases List.mem_append.mp h1 with h1 | h1
          · exact .inl ⟨x, h1, h2⟩
          · have : x = xs := by simpa using h1
            subst this; exact .inr h2
    · rintro σ H2 ⟨v, v2, S, rfl, s2, hS, hnd, hmem, hsl⟩
      have hl : (as.map V.ref).length = F.length := by rw [List.length_map, hal]
      rw [hl, List.take_length] at hmem
      refine ⟨_, rfl, D, _, rfl, hS, fun l bs hl0 hpr => ?_⟩
      have hT : TupsH (upd H2 l (.lst (bs.map V.ref))) bs S := by
        have gen : ∀ {bs : List Addr} {S : List (List Int)}, Paired (fun a kv => H2 a = some (.tup ((kv : List Key × V).1.map kV))) bs (kvs1 S) → TupsH H2 bs S := by
          intro bs S
          induction S generalizing bs with
          | nil => intro h; cases h; exact .nil
          | cons x S ih =>
            intro h
            cases h with
            | cons r t => exact .cons (by rw [← kV_inl]; exact r) (ih t)
        exact (gen hpr).same (upd_fresh hl0)
      have hbS : bs.length = S.length := hT.len
      refine ⟨l, bs, S, rfl, upd_same, hT, ?_, fun l2 H3 cs G s3 hl2 hG hTG hpm hso => ?_⟩
      · by_cases h2 : bs.length < 2
        · exact .inl h2
        · refine .inr fun x hx e => ?_
          obtain ⟨z, hz, q, hq, ex⟩ := (hmem x).mp hx
          have hzl := hn z hz
          have hcl := cutI_len hq
          rw [← ex, e] at hcl
          simp at hcl
          have all0 : ∀ y ∈ S, y = [] := fun y hy => by
            obtain ⟨z', hz', q', hq', ey⟩ := (hmem y).mp hy
            have h1 := hn z' hz'
            have h3 := cutI_len hq'
            rw [← ey] at h3
            exact List.length_eq_zero_iff.mp (by omega)
          match S, hnd, all0, hbS with
          | [], _, _, hbS => exact h2 (by rw [hbS]; decide)
          | [_], _, _, hbS => exact h2 (by rw [hbS]; show 1 < 2; decide)
          | a :: b :: S, hnd, all0, _ =>
            have e1 := all0 a (by simp)
            have e2 := all0 b (by simp)
            rw [e1, e2] at hnd
            simp at hnd
      · refine k l2 H3 cs G ((s2.trans (upd_fresh hl0)).trans s3) ((s2.trans (upd_fresh hl0)).free hl2) hG hTG (hpm.nodup_iff.mpr hnd) (fun y => ?_) hso
        rw [hpm.mem_iff]; exact hmem y
end
end K04

namespace K04
open PySem L2
noncomputable def stI (k m : Nat) : List Int := (SH.st k m).map fun n : Nat => (n : Int)
theorem natsV_st (k m : Nat) : natsV (SH.st k m) = (stI k m).map V.int := by unfold natsV stI; rw [List.map_map]; rfl
theorem SetsAt.tups {H : Hp} {as : List Addr} {k : Nat} {ms : List Nat} (h : SetsAt H as k ms) : TupsH H as (ms.map (stI k)) := by
  induction h with
  | nil => exact .nil
  | cons r t ih => exact .cons (by rw [← natsV_st]; exact r) ih
theorem inOrder_st {n k : Nat} (hk : 1 ≤ k) : (inOrder n k).map List.reverse = (List.range (SH.C n k)).map (stI k) := by
  unfold inOrder
  rw [List.map_map]
  refine List.map_congr_left fun m hm => ?_
  show (fI (SH.greedy n k m)).reverse = stI k m
  rw [SH.gre_eq hk (List.mem_range.mp hm)]
  unfold fI stI SH.st
  rw [List.map_reverse]
theorem TupsH.take {H : Hp} : ∀ {as : List Addr} {F : List (List Int)} (n : Nat), TupsH H as F → TupsH H (as.take n) (F.take n)
  | _, _, 0, _ => .nil
  | _, _, n + 1, .nil => .nil
  | _, _, n + 1, .cons r t => .cons r (TupsH.take n t)
end K04

namespace K04
open PySem L2
theorem fam_go_of {n : Nat} (h1 : 1 ≤ n) (h6 : n ≤ 6) : ∀ {F seen : List (List Int)}, (∀ x ∈ F, x.length = n ∧ rises 12 (-1) x = true) → F.Nodup → (∀ x ∈ F, x ∉ seen) → famGo n seen F = true
  | [], _, _, _, _ => rfl
  | y :: F, seen, h, hn, hs => by
    rw [famGo]
    have hy := h y List.mem_cons_self
    rw [if_neg (by omega), if_neg]
    · refine fam_go_of h1 h6 (fun x hx => h x (List.mem_cons_of_mem _ hx)) (List.nodup_cons.mp hn).2 fun x hx z => ?_
      rcases List.mem_append.mp z with z | z
      · exact hs x (List.mem_cons_of_mem _ hx) z
      · rw [List.mem_singleton.mp z] at hx
        exact (List.nodup_cons.mp hn).1 hx
    · rintro (z | z)
      · exact hs y List.mem_cons_self z
      · rw [hy.2] at z; cases z
theorem fam_of {n : Nat} (h1 : 1 ≤ n) (h6 : n ≤ 6) {F : List (List Int)} (hl : F.length ≤ 200) (h : ∀ x ∈ F, x.length = n ∧ rises 12 (-1) x = true) (hn : F.Nodup) : isFam F = true := by
  unfold isFam
  rw [decide_eq_true hl, Bool.true_and]
  cases F with
  | nil => rfl
  | cons y F =>
    have : ((y :: F).headD []).length = n := (h y List.mem_cons_self).1
    rw [this]
    exact fam_go_of h1 h6 h hn fun _ _ z => nomatch z
theorem rises_up {b : Int} : ∀ {xs : List Int} {p : Int}, xs.Pairwise (· < ·) → (∀ x ∈ xs, p < x ∧ x < b) → rises b p xs = true
  | [], _, _, _ => rfl
  | x :: xs, p, h, hb => by
    have hx := hb x List.mem_cons_self
    rw [rises, if_neg (by omega)]
    exact rises_up (List.pairwise_cons.mp h).2 fun y hy => ⟨(List.pairwise_cons.mp h).1 y hy, (hb y (List.mem_cons_of_mem _ hy)).2⟩
theorem st_small {k b m x : Nat} (hk : 1 ≤ k) (h : m < SH.C b k) (hx : x ∈ SH.st k m) : x < b := by
  unfold SH.st at hx
  rw [← SH.gre_eq hk h] at hx
  exact (SH.greedy_ok h).1.mem x (List.mem_reverse.mp hx)
theorem ints_inj : ∀ {xs ys : List Nat}, xs.map (fun n : Nat => (n : Int)) = ys.map (fun n : Nat => (n : Int)) → xs = ys
  | [], [], _ => rfl
  | [], _ :: _, h => by simp at h
  | _ :: _, [], h => by simp at h
  | x :: xs, y :: ys, h => by
    rw [List.map_cons, List.map_cons] at h
    injection h with h1 h2
    rw [ints_inj h2, Int.ofNat.inj h1]
theorem stI_inj {k m m' : Nat} (hk : 1 ≤ k) (h : stI k m = stI k m') : m = m' := by
  have := ints_inj h
  rw [← SH.st_num (m := m) hk, this, SH.st_num hk]
theorem stI_len (k m : Nat) : (stI k m).length = k := by unfold stI; rw [List.length_map, SH.st_len]
end K04

namespace K04
open PySem L2
theorem sub_sets {H : Hp} {as fs rest : List Addr} {k N : Nat} (ht : TupsH H as ((List.range N).map (stI k))) (hp : (fs ++ rest).Perm as) : ∃ ms : List Nat, ms.Nodup ∧ (∀ i ∈ ms, i < N) ∧ ms.length = fs.length ∧ fs.length ≤ N ∧ TupsH H fs (ms.map (stI k)) := by
  have hl : as.length = N := by rw [ht.len]; simp
  have e0 : as = (List.range N).map fun i => as.getD i 0 := by
    refine List.ext_getElem (by simp [hl]) fun i h1 h2 => ?_
    simp [h1]
  have hp2 := hp
  rw [e0] at hp2
  obtain ⟨idx, he, hidx⟩ := Tim.perm_map_inv hp2
  have hat : ∀ i, i < N → H (as.getD i 0) = some (.tup ((stI k i).map V.int)) := fun i hi => by
    obtain ⟨xs, hx, hH⟩ := ht.at (i := i) (a := as.getD i 0) (by rw [List.getD_eq_getElem?_getD, List.getElem?_eq_getElem (by omega)]; rfl)
    rw [List.getElem?_map, List.getElem?_range hi] at hx
    have : stI k i = xs := by simpa using hx
    rw [this]; exact hH
  have hfs : fs = (idx.take fs.length).map fun i => as.getD i 0 := by
    have := congrArg (List.take fs.length) he
    rw [List.take_left, ← List.map_take] at this
    exact this
  have hin : ∀ i ∈ idx.take fs.length, i < N := fun i hi => List.mem_range.mp (hidx.mem_iff.mp (List.mem_of_mem_take hi))
  have hil : idx.length = (fs ++ rest).length := by rw [he]; simp
  refine ⟨idx.take fs.length, (hidx.nodup_iff.mpr List.nodup_range).sublist (List.take_sublist _ _), hin, by rw [List.length_take, hil, List.length_append]; omega, by have := hp.length_eq; rw [List.length_append] at this; omega, ?_⟩
  have gen : ∀ l : List Nat, (∀ i ∈ l, i < N) → TupsH H (l.map fun i => as.getD i 0) (l.map (stI k)) := by
    intro l
    induction l with
    | nil => intro _; exact .nil
    | cons i l ih => intro h; exact .cons (hat i (h i (by simp))) (ih fun j hj => h j (List.mem_cons_of_mem _ hj))
  have := gen _ hin
  rw [← hfs] at this
  exact this
theorem C_small : ∀ {a b : Nat}, SH.C a b ≤ 2 ^ a
  | _, 0 => by rw [SH.C_zero]; exact Nat.one_le_two_pow
  | 0, b + 1 => by rw [SH.C_zs]; exact Nat.zero_le _
  | a + 1, b + 1 => by
    rw [SH.C_ss, Nat.pow_succ]
    have h1 := C_small (a := a) (b := b)
    have h2 := C_small (a := a) (b := b + 1)
    omega
theorem C_4096 {n k : Nat} (h : n ≤ 12) : SH.C n k ≤ 4096 := Nat.le_trans (SH.C_mono k h) (Nat.le_trans C_small (by decide))
end K04

namespace K04
open PySem L2
theorem pickq (x : Int) : ∃ q : Int, atI [V.int 4, V.int 1, V.int 7, V.int 2] (x % 4) = some (.int q) := by
  obtain ⟨j, hj, hj4⟩ := mod_nat x 4 (by decide)
  have hj : x % 4 = (j : Int) := hj
  rw [hj]
  match j, hj4 with
  | 0, _ => exact ⟨4, rfl⟩
  | 1, _ => exact ⟨1, rfl⟩
  | 2, _ => exact ⟨7, rfl⟩
  | 3, _ => exact ⟨2, rfl⟩
theorem cut_to (gs : List Addr) (c : Nat) : cutV (gs.map V.ref) none (some (c : Int)) = (gs.take c).map V.ref := by
  unfold cutV
  rw [HT.sIx_none, HT.sIx_nat, List.length_map, List.drop_zero, Nat.sub_zero, ← List.map_take]
  congr 1
  rcases Nat.le_total c gs.length with z | z
  · rw [Nat.min_eq_left z]
  · rw [Nat.min_eq_right z, List.take_of_length_le (Nat.le_refl _), List.take_of_length_le z]
theorem cut_from (gs : List Addr) {c : Nat} (h : c ≤ gs.length) : cutV (gs.map V.ref) (some (c : Int)) none = (gs.drop c).map V.ref := by
  unfold cutV
  rw [HT.sIx_none, HT.sIx_nat, List.length_map, Nat.min_eq_left h, ← List.map_drop, ← List.map_take, List.take_of_length_le (by rw [List.length_drop]; exact Nat.le_refl _)]
noncomputable def spFam (K : PySem.W.Frag) : Sp := fun vs H Q _ => ∃ (p S : Addr) (ns : List Int) (st : Nat) (way : Int) (as : List Addr), vs = [.ref p, .int st, .ref S, .int way] ∧ SqL K H p (ns.map V.int) ∧ H S = some (.lst (as.map V.ref)) ∧ as.length ≤ 100000 ∧ st ≤ 1000 ∧
  ∀ l H2 (fs gs : List Addr), Same H H2 → H l = none → H2 l = some (.lst (fs.map V.ref)) → fs.Perm gs → gs.Sublist as → fs.length ≤ 200 → Q (.ref l) H2
section
variable {P : Program} {w : World} {K : PySem.W.Frag} {mg : Str → Option Value} {base : Heap}
theorem sc__law_family_by : FnScope ["script", "start", "sets", "way", "family", "k", "cell", "turn", "cut"] ["script", "start", "sets", "way"] (defScope (top 27)) := ⟨rfl, rfl, rfl, by decide +kernel, rfl, by decide +kernel, by decide +kernel⟩
set_option maxHeartbeats 4000000 in
theorem ok__law_family_by {f : Addr} {fd : FuncData} (F : Fun K "_law_family_by" "_law_family_by" (top 27) f fd) (B : Bt mg) (c__law_cell_at : Cal P w K mg base "_law_cell_at" 1 (spCell K)) : FnOk P w K mg base CX0 4 f fd ["script", "start", "sets", "way"] (spFam K) := by
  have nd := sc__law_family_by.nd
  refine F.ok sc__law_family_by (fun vs H Q E h => ?_) (fun cdv A outer s H vs Q E hr h => ?_)
  · obtain ⟨p, S, ns, st, way, as, rfl, _⟩ := h
    rfl
  · obtain ⟨p, S, ns, st, way, as, rfl, hp, hS, has, hst, k⟩ := h
    have hasz : as.length < sizeLine := Nat.lt_of_le_of_lt has (by decide)
    obtain ⟨qv, hqv⟩ := pickq way
    refine ⟨_, (pss_cons (ps_set (i := 4) nd rfl (Or.inl rfl) (pe_lst pa_nil))
        (pss_cons (ps_for PassesOwn.never rfl (pi_range1 rfl B.range (pa_cons (pe_callB call_len_seq rfl B.len PySem.boot_len (pa_cons (pv 2) pa_nil)) pa_nil)) (pg_name (i := 5) nd rfl (Or.inl rfl)) (pss_cons (ps_set (i := 6) nd rfl (Or.inl rfl) (pe_cal c__law_cell_at (hr.mono (by decide)) rfl (pa_cons (pv 0) (pa_cons (pe_op op_add (pv 1) (pe_op op_fdiv (pv 5) pe_int)) pa_nil))))
        (pss_cons (ps_if (pt_cmpR op_gt (pe_op op_mod (pe_op op_fdiv (pv 3) pe_int) pe_int) pe_int (nomark _)) (pss_cons (ps_set (i := 6) nd rfl (Or.inl rfl) (pe_op op_mod (pe_op op_add (pe_op op_add (pv 6) (pe_op op_mul pe_int (pv 5))) pe_int) pe_int))
        (pss_one (ps_set (i := 6) nd rfl (Or.inl rfl) (pe_op op_fdiv (pe_op op_mod (pe_op op_mul (pe_op op_mod (pe_op op_mul (pv 6) (pv 6)) pe_int) pe_int) pe_int) pe_int)))) (pss_one (ps_for PassesOwn.never rfl (pi_range1 rfl B.range (pa_cons (pe_op op_mod (pv 5) pe_int) pa_nil)) (pg_name (i := 7) nd rfl (Or.inl rfl)) (pss_one (ps_set (i := 6) nd rfl (Or.inl rfl) (pe_op op_fdiv (pv 6) pe_int))))))
        (pss_one (ps_if (pt_cmpR op_lt (pe_op op_mod (pv 6) pe_int) (pe_ix (r := rIxL K) ix_list (pe_lst (pa_cons pe_int (pa_cons pe_int (pa_cons pe_int (pa_cons pe_int pa_nil))))) (pe_op op_mod (pv 3) pe_int) (fun _ _ => rfl)) (nomark _)) (pss_one (ps_expr (pe_bm PySem.F.plainAttrs_list PySem.F.slot_list_append PySem.F.type_list_append mt_append (pv 4) (pa_cons (pe_ix (r := rIxL K) ix_list (pv 2) (pv 5) (fun _ _ => rfl)) pa_nil)))) pss_nil)))))
        (pss_cons (ps_set (i := 4) nd rfl (Or.inl rfl) (pe_slice (r := rSlL K) sl_list (pv 4) po_none (po_some pe_int)))
        (pss_cons (ps_set (i := 8) nd rfl (Or.inl rfl) (pe_op op_mod (pe_op op_fdiv (pv 3) pe_int) (pe_op op_add (pe_callB call_len_seq rfl B.len PySem.boot_len (pa_cons (pv 4) pa_nil)) pe_int)))
        (pss_cons (ps_set (i := 4) nd rfl (Or.inl rfl) (pe_op op_cat (pe_slice (r := rSlL K) sl_list (pv 4) (po_some (pv 8)) po_none) (pe_slice (r := rSlL K) sl_list (pv 4) po_none (po_some (pv 8)))))
        (pss_cons (ps_if (pt_cmpR op_eq (pe_op op_mod (pe_op op_fdiv (pv 3) pe_int) pe_int) pe_int (nomark _)) (pss_one (ps_expr (pe_bm0 PySem.F.plainAttrs_list PySem.F.slot_list_reverse PySem.F.type_list_reverse mt_reverse (pv 4)))) pss_nil)
        (pss_one (ps_ret (pv 4))))))))), ?_⟩
    refine ⟨Nat.zero_le _, fun l0 hl0 => ?_⟩
    have hml : (as.map V.ref).length = as.length := List.length_map ..
    refine ⟨_, rfl, S, _, rfl, .inl (.inl (.inl (upd_fresh hl0 _ _ hS))), _, rfl, by rw [hml]; omega, by rw [hml]; omega, ?_⟩
    refine for_range (fun i σ H2 => ∃ (gs : List Addr) (v5 v6 v7 : Option V), σ = [some (.ref p), some (.int st), some (.ref S), some (.int way), some (.ref l0), v5, v6, v7, none] ∧ Same H H2 ∧ H2 l0 = some (.lst (gs.map V.ref)) ∧ gs.Sublist (as.take i))
      ⟨[], none, none, none, rfl, upd_fresh hl0, upd_same, List.nil_sublist _⟩ ?_ ?_
    · rintro i σ H2 hi ⟨gs, v5, v6, v7, rfl, s2, hl2, hsub⟩
      have hi : i < as.length := by rw [hml] at hi; omega
      have hgl : gs.length < sizeLine := by
        have := hsub.length_le
        rw [List.length_take] at this
        omega
      have e1 : (st : Int) + (0 + (i : Int)) / 16 = ((st + i / 16 : Nat) : Int) := by omega
      refine ⟨_, rfl, _, rfl, _, rfl, _, _, rfl, rfl, ⟨by omega, by omega⟩, _, _, rfl, rfl, p, ns, st + i / 16, (by rw [← e1]; rfl), s2.seq hp, ?_⟩
      refine ⟨_, rfl, _, _, rfl, rfl, ⟨by omega, by omega⟩, _, _, rfl, rfl, (by show (0 : Int) < 4; decide), _, _, rfl, rfl, _, rfl, ite2 (fun _ => ?_) (fun _ => ?_)⟩
      · refine ⟨_, rfl, _, rfl, _, _, rfl, rfl, .inl ⟨by omega, by omega⟩, _, _, rfl, rfl, _, _, rfl, rfl, _, _, rfl, rfl, (by show (0 : Int) < 2147483647; decide), ?_⟩
        generalize hc : (ns.getD (st + i / 16) 0 + 7919 * (0 + (i : Int)) + 101) % 2147483647 = c2
        have c20 : 0 ≤ c2 ∧ c2 < 2147483647 := ⟨by rw [← hc]; exact Int.emod_nonneg _ (by decide), by rw [← hc]; exact Int.emod_lt_of_pos _ (by decide)⟩
        refine ⟨_, rfl, _, rfl, _, _, rfl, rfl, .inl ⟨by rw [hc]; omega, by rw [hc]; omega⟩, _, _, rfl, rfl, (by show (0 : Int) < 2147483647; decide), _, _, rfl, rfl, .inr ⟨by omega, by omega⟩, _, _, rfl, rfl, (by show (0 : Int) < 2147483647; decide), _, _, rfl, rfl, ⟨by omega, by omega⟩, ?_⟩
        refine ⟨_, rfl, _, _, rfl, rfl, (by show (0 : Int) < 8; decide), (by show 4 ≤ sizeLine; decide), fun m2 hm2 => ?_⟩
        have s6 : Same H2 (upd H2 m2 (.lst [.int 4, .int 1, .int 7, .int 2])) := upd_fresh hm2
        refine ⟨_, rfl, _, _, rfl, rfl, (by show (0 : Int) < 4; decide), m2, _, _, .int qv, rfl, rfl, .inl (.inl upd_same), hqv, _, _, rfl, rfl, _, rfl, ite2 (fun _ => ?_) (fun _ => ?_)⟩
        · refine ⟨_, rfl, .inl ⟨rfl, _, .inl (.inl (s6 _ _ hl2))⟩, _, rfl, _, rfl, S, _, _, .ref as[i], rfl, rfl, .inl (.inl (s6 _ _ (s2 _ _ hS))), ?_, l0, _, _, rfl, rfl, s6 _ _ hl2, by rw [List.length_map]; exact hgl, ?_⟩
          · rw [Int.zero_add]; refine at_of ?_; rw [List.getElem?_map, List.getElem?_eq_getElem hi]; rfl
          · refine ⟨gs ++ [as[i]], _, _, _, rfl, same_put (s2.trans s6) hl0, by rw [upd_same, List.map_append]; rfl, ?_⟩
            rw [List.take_succ_eq_append_getElem hi]
            exact hsub.append (List.Sublist.refl _)
        · refine ⟨gs, _, _, _, rfl, s2.trans s6, s6 _ _ hl2, ?_⟩
          rw [List.take_succ_eq_append_getElem hi]
          exact hsub.trans (List.sublist_append_left _ _)
      · refine ⟨_, rfl, _, _, rfl, rfl, (by show (0 : Int) < 16; decide), _, rfl, ?_, ?_, ?_⟩
        · have := Int.emod_nonneg (0 + (i : Int)) (show (16 : Int) ≠ 0 by decide); omega
        · have := Int.emod_lt_of_pos (0 + (i : Int)) (show (0 : Int) < 16 by decide); omega
        refine for_range (fun _ σ H3 => ∃ (c : Int) (v7 : Option V), σ = [some (.ref p), some (.int st), some (.ref S), some (.int way), some (.ref l0), some (.int (0 + (i : Int))), some (.int c), v7, none] ∧ H3 = H2) ⟨_, v7, rfl, rfl⟩ ?_ ?_
        · rintro j σ H3 hj ⟨c, v7, rfl, rfl⟩
          exact ⟨_, rfl, _, _, rfl, rfl, ⟨by omega, by omega⟩, _, _, rfl, rfl⟩
        · rintro σ H3 ⟨c, v7, rfl, rfl⟩
          refine ⟨_, rfl, _, _, rfl, rfl, (by show (0 : Int) < 8; decide), (by show 4 ≤ sizeLine; decide), fun m2 hm2 => ?_⟩
          have s6 : Same H3 (upd H3 m2 (.lst [.int 4, .int 1, .int 7, .int 2])) := upd_fresh hm2
          refine ⟨_, rfl, _, _, rfl, rfl, (by show (0 : Int) < 4; decide), m2, _, _, .int qv, rfl, rfl, .inl (.inl upd_same), hqv, _, _, rfl, rfl, _, rfl, ite2 (fun _ => ?_) (fun _ => ?_)⟩
          · refine ⟨_, rfl, .inl ⟨rfl, _, .inl (.inl (s6 _ _ hl2))⟩, _, rfl, _, rfl, S, _, _, .ref as[i], rfl, rfl, .inl (.inl (s6 _ _ (s2 _ _ hS))), ?_, l0, _, _, rfl, rfl, s6 _ _ hl2, by rw [List.length_map]; exact hgl, ?_⟩
            · rw [Int.zero_add]; refine at_of ?_; rw [List.getElem?_map, List.getElem?_eq_getElem hi]; rfl
            · refine ⟨gs ++ [as[i]], _, _, _, rfl, same_put (s2.trans s6) hl0, by rw [upd_same, List.map_append]; rfl, ?_⟩
              rw [List.take_succ_eq_append_getElem hi]
              exact hsub.append (List.Sublist.refl _)
          · refine ⟨gs, _, _, _, rfl, s2.trans s6, s6 _ _ hl2, ?_⟩
            rw [List.take_succ_eq_append_getElem hi]
            exact hsub.trans (List.sublist_append_left _ _)
    · rintro σ H2 ⟨gs, v5, v6, v7, rfl, s2, hl2, hsub⟩
      have hgs : gs.Sublist as := hsub.trans (List.take_sublist _ _)
      refine ⟨_, rfl, (200 : Int), rfl, l0, _, rfl, .inl (.inl hl2), fun l1 hl1 => ?_⟩
      have e200 : cutV (gs.map V.ref) none (some (200 : Int)) = (gs.take 200).map V.ref := cut_to gs 200
      rw [e200]
      have hsub2 : (gs.take 200).Sublist as := (List.take_sublist _ _).trans hgs
      have hle2 : (gs.take 200).length ≤ 200 := by rw [List.length_take]; omega
      generalize gs.take 200 = g2 at hsub2 hle2
      have s3 : Same H2 (upd H2 l1 (.lst (g2.map V.ref))) := upd_fresh hl1
      have hlm : (g2.map V.ref).length = g2.length := List.length_map ..
      obtain ⟨c, hc, hcl⟩ := mod_nat (way / 4) (g2.length + 1) (by omega)
      have hc2 : way / 4 % (((g2.map V.ref).length : Int) + 1) = (c : Int) := by rw [hlm]; exact hc
      refine ⟨_, rfl, _, _, rfl, rfl, ⟨by omega, by omega⟩, _, rfl, l1, _, rfl, .inl (.inl (.inl upd_same)), _, _, rfl, rfl, _, _, rfl, rfl, (by rw [hlm]; show (0 : Int) < (g2.length : Nat) + 1; omega), ?_⟩
      refine ⟨_, rfl, _, rfl, _, rfl, l1, _, rfl, .inl (.inl upd_same), fun l2 hl22 => ?_⟩
      have s4 := s3.trans (upd_fresh hl22 (o := .lst (cutV (g2.map V.ref) (some (way / 4 % (((g2.map V.ref).length : Int) + 1))) none)))
      have n12 : l1 ≠ l2 := fun z => by rw [← z, upd_same] at hl22; cases hl22
      refine ⟨_, rfl, _, rfl, _, rfl, l1, _, rfl, .inl (.inl (by rw [upd_ne n12, upd_same])), fun l3 hl33 => ?_⟩
      have n23 : l2 ≠ l3 := fun z => by rw [← z, upd_same] at hl33; cases hl33
      have s5 := s4.trans (upd_fresh hl33 (o := .lst (cutV (g2.map V.ref) none (some (way / 4 % (((g2.map V.ref).length : Int) + 1))))))
      have k1 : cutV (g2.map V.ref) (some (way / 4 % (((g2.map V.ref).length : Int) + 1))) none = (g2.drop c).map V.ref := by rw [hc2]; exact cut_from g2 (by omega)
      have k2 : cutV (g2.map V.ref) none (some (way / 4 % (((g2.map V.ref).length : Int) + 1))) = (g2.take c).map V.ref := by rw [hc2]; exact cut_to g2 c
      refine ⟨l2, l3, (g2.drop c).map V.ref, (g2.take c).map V.ref, rfl, rfl, (by rw [upd_ne n23, upd_same, k1]), (by rw [upd_same, k2]), ?_, fun l4 hl4 => ?_⟩
      · rw [List.length_map, List.length_map, List.length_drop, List.length_take]
        have : (200 : Nat) ≤ sizeLine := by decide
        omega
      have hper : (g2.drop c ++ g2.take c).Perm g2 := (List.perm_append_comm).trans (by rw [List.take_append_drop])
      have hll : (g2.drop c ++ g2.take c).length ≤ 200 := by rw [hper.length_eq]; exact hle2
      have h4 : H l4 = none := (s2.trans s5).free hl4
      refine ⟨_, rfl, _, _, rfl, rfl, ⟨by omega, by omega⟩, _, _, rfl, rfl, (by show (0 : Int) < 2; decide), rfl, _, rfl, ite2 (fun _ => ?_) (fun _ => ?_)⟩
      · refine ⟨_, rfl, .inl ⟨rfl, _, .inl (.inl upd_same)⟩, l4, _, rfl, rfl, upd_same, ?_⟩
        rw [upd_upd]
        refine ⟨_, rfl, k l4 _ (g2.drop c ++ g2.take c).reverse g2 ((s2.trans s5).trans (upd_fresh hl4)) h4 (by rw [upd_same, ← List.map_append, ← List.map_reverse]) ((List.reverse_perm _).trans hper) hsub2 (by rw [List.length_reverse]; exact hll)⟩
      · exact ⟨_, rfl, k l4 _ (g2.drop c ++ g2.take c) g2 ((s2.trans s5).trans (upd_fresh hl4)) h4 (by rw [upd_same, ← List.map_append]) hper hsub2 hll⟩
end
end K04

namespace K04
open PySem L2
noncomputable def spSz (K : PySem.W.Frag) : Sp := fun vs H Q _ => ∃ (p : Addr) (ns : List Int), vs = [.ref p] ∧ SqL K H p (ns.map V.int) ∧ ∀ t H2 (n sz : Nat), Same H H2 → H t = none → H2 t = some (.tup [.int n, .int sz]) → 1 ≤ n → n ≤ 12 → 1 ≤ sz → sz ≤ 6 → sz ≤ n → n ^ sz ≤ 10000000 → (n ≤ 9 ∨ sz ≤ 3) → Q (.ref t) H2
theorem pow_small {n sz : Nat} (h : n ≤ 9) (h2 : sz ≤ 6) : n ^ sz ≤ 10000000 := by
  refine Nat.le_trans (Nat.pow_le_pow_left h sz) (Nat.le_trans (Nat.pow_le_pow_right (by decide) h2) (by decide))
section
variable {P : Program} {w : World} {K : PySem.W.Frag} {mg : Str → Option Value} {base : Heap}
theorem sc__law_size_of : FnScope ["script", "head", "things"] ["script"] (defScope (top 28)) := ⟨rfl, rfl, rfl, by decide +kernel, rfl, by decide +kernel, by decide +kernel⟩
theorem ok__law_size_of {f : Addr} {fd : FuncData} (F : Fun K "_law_size_of" "_law_size_of" (top 28) f fd) (B : Bt mg) (c__law_cell_at : Cal P w K mg base "_law_cell_at" 1 (spCell K)) : FnOk P w K mg base CX0 4 f fd ["script"] (spSz K) := by
  have nd := sc__law_size_of.nd
  refine F.ok sc__law_size_of (fun vs H Q E h => ?_) (fun cdv A outer s H vs Q E hr h => ?_)
  · obtain ⟨p, ns, rfl, _⟩ := h
    rfl
  · obtain ⟨p, ns, rfl, hp, k⟩ := h
    refine ⟨_, (pss_cons (ps_set (i := 1) nd rfl (Or.inl rfl) (pe_cal c__law_cell_at (hr.mono (by decide)) rfl (pa_cons (pv 0) (pa_cons pe_int pa_nil))))
        (pss_cons (ps_if (pt_cmpR op_eq (pe_op op_mod (pe_op op_fdiv (pv 1) pe_int) pe_int) pe_int (nomark _)) (pss_one (ps_ret (pe_tup (pa_cons pe_int (pa_cons (pe_op op_add pe_int (pe_op op_mod (pv 1) pe_int)) pa_nil))))) pss_nil)
        (pss_cons (ps_set (i := 2) nd rfl (Or.inl rfl) (pe_op op_add pe_int (pe_op op_mod (pv 1) pe_int)))
        (pss_one (ps_ret (pe_tup (pa_cons (pv 2) (pa_cons (pe_op op_add pe_int (pe_op op_mod (pe_op op_fdiv (pv 1) pe_int) (pe_callB (call_min2 rfl) rfl B.min b_min (pa_cons pe_int (pa_cons (pv 2) pa_nil))))) pa_nil)))))))), ?_⟩
    refine ⟨_, rfl, p, ns, 0, rfl, hp, ?_⟩
    generalize hh : ns.getD 0 0 = hd
    refine ⟨_, rfl, _, _, rfl, rfl, ⟨by omega, by omega⟩, _, _, rfl, rfl, (by show (0 : Int) < 8; decide), rfl, _, rfl, ite2 (fun _ => ?_) (fun _ => ?_)⟩
    · obtain ⟨m, hm, hm2⟩ := mod_nat hd 2 (by decide)
      refine ⟨_, rfl, _, _, rfl, rfl, (by show (0 : Int) < 2; decide), _, _, rfl, rfl, (by show 2 ≤ sizeLine; decide), fun t ht => ?_⟩
      refine k t _ 12 (2 + m) (upd_fresh ht) ht ?_ (by omega) (by omega) (by omega) (by omega) (by omega) ?_ (.inr (by omega))
      · rw [upd_same]
        have e : (2 : Int) + hd % 2 = ((2 + m : Nat) : Int) := by have : hd % 2 = (m : Int) := hm; omega
        show some (HO.tup [.int 12, .int (2 + hd % 2)]) = _
        rw [e]
        rfl
      · match m, hm2 with
        | 0, _ => decide
        | 1, _ => decide
    · obtain ⟨m, hm, hm9⟩ := mod_nat hd 9 (by decide)
      have hm : hd % 9 = (m : Int) := hm
      have e1 : (1 : Int) + hd % 9 = ((1 + m : Nat) : Int) := by omega
      have e2 : (if (1 : Int) + hd % 9 < 6 then 1 + hd % 9 else 6) = ((min 6 (1 + m) : Nat) : Int) := by rw [e1]; split <;> omega
      obtain ⟨z, hz, hz2⟩ := mod_nat (hd / 9) (min 6 (1 + m)) (by omega)
      refine ⟨_, rfl, _, _, rfl, rfl, (by show (0 : Int) < 9; decide), _, _, rfl, rfl, ?_⟩
      refine ⟨_, rfl, _, rfl, _, _, rfl, rfl, ⟨by omega, by omega⟩, _, rfl, _, _, rfl, _, _, rfl, rfl, ?_, _, _, rfl, rfl, (by show 2 ≤ sizeLine; decide), fun t ht => ?_⟩
      · show (0 : Int) < (if (1 : Int) + hd % 9 < 6 then 1 + hd % 9 else 6)
        rw [e2]; omega
      refine k t _ (1 + m) (1 + z) (upd_fresh ht) ht ?_ (by omega) (by omega) (by omega) (by omega) (by omega) (pow_small (by omega) (by omega)) (.inl (by omega))
      rw [upd_same]
      show some (HO.tup [.int (1 + hd % 9), .int (1 + hd / 9 % (if (1 : Int) + hd % 9 < 6 then 1 + hd % 9 else 6))]) = _
      rw [e2, hz, e1, show (1 : Int) + (z : Int) = ((1 + z : Nat) : Int) by omega]
end
end K04

namespace K04
open PySem L2
noncomputable def dI (xs : List Int) : Dt := .t (xs.map Dt.i)
theorem deqs_t : ∀ F G : List (List Int), deqs (F.map dI) (G.map dI) = decide (F = G)
  | [], [] => by simp [deqs]
  | [], _ :: _ => by simp [deqs]
  | _ :: _, [] => by simp [deqs]
  | x :: xs, y :: ys => by
    rw [List.map_cons, List.map_cons, deqs, deqs_t xs ys, dI, dI, deq, deqs_i]
    rw [Bool.eq_iff_iff]
    simp
theorem likes_t : ∀ F G : List (List Int), likes (F.map dI) (G.map dI)
  | [], [] => trivial
  | [], _ :: _ => trivial
  | _ :: _, [] => trivial
  | x :: xs, y :: ys => ⟨likes_i x y, likes_t xs ys⟩
theorem deps_t : ∀ F : List (List Int), deps (F.map dI) ≤ 1
  | [] => Nat.zero_le _
  | x :: xs => by
    rw [List.map_cons, deps, dI, dep, deps_i]
    exact Nat.max_le.mpr ⟨Nat.le_refl _, deps_t xs⟩
theorem TupsH.atDs {K : PySem.W.Frag} {H : Hp} {as : List Addr} {F : List (List Int)} (h : TupsH H as F) : AtDs K H (as.map V.ref) (F.map dI) := by
  induction h with
  | nil => trivial
  | cons r t ih => exact ⟨⟨_, _, rfl, .inl (.inl r), atDs_i _⟩, ih⟩
section
variable {P : Program} {w : World} {K : PySem.W.Frag} {mg : Str → Option Value} {base : Heap}
end
end K04

namespace K04
open PySem L2
noncomputable abbrev Up (x : List Int) : Prop := x.Pairwise (· < ·)
theorem up_nodup {x : List Int} (h : Up x) : x.Nodup := h.imp fun {a b} q => by omega
theorem cut_split {x : List Int} {p : Nat} (h : p < x.length) : ∃ A a B, x = A ++ a :: B ∧ cutI x p = A ++ B :=
  ⟨x.take p, x[p], x.drop (p + 1), by rw [← List.drop_eq_getElem_cons h, List.take_append_drop], rfl⟩
theorem up_cut {A B : List Int} {a : Int} (h : Up (A ++ a :: B)) : Up (A ++ B) ∧ a ∉ A ++ B := by
  refine ⟨h.sublist (by simp), fun z => ?_⟩
  have := up_nodup h
  have hp : (A ++ a :: B).Perm (a :: (A ++ B)) := List.perm_middle
  exact (List.nodup_cons.mp (hp.nodup_iff.mp this)).1 z
theorem cut_up {x : List Int} {p : Nat} (hx : Up x) (h : p < x.length) : Up (cutI x p) := by
  obtain ⟨A, a, B, rfl, e⟩ := cut_split h
  rw [e]; exact (up_cut hx).1
theorem cut_mem {x : List Int} {p : Nat} {b : Int} (hb : b ∈ cutI x p) : b ∈ x := by
  unfold cutI at hb
  rcases List.mem_append.mp hb with hb | hb
  · exact List.mem_of_mem_take hb
  · exact List.mem_of_mem_drop hb
structure Gd (n z : Nat) (F : List (List Int)) : Prop where
  nd : F.Nodup
  len : ∀ x ∈ F, x.length = z
  up : ∀ x ∈ F, Up x
  lt : ∀ x ∈ F, ∀ a ∈ x, 0 ≤ a ∧ a < (n : Int)
theorem Gd.fam {n z : Nat} {F : List (List Int)} (g : Gd n z F) (hn : n ≤ 12) (h1 : 1 ≤ z) (h6 : z ≤ 6) (hl : F.length ≤ 200) : isFam F = true :=
  fam_of h1 h6 hl (fun x hx => ⟨g.len x hx, rises_up (g.up x hx) fun a ha => by have := g.lt x hx a ha; omega⟩) g.nd
theorem gd_st {n z : Nat} {ms : List Nat} (hz : 1 ≤ z) (hnd : ms.Nodup) (hb : ∀ i ∈ ms, i < SH.C n z) : Gd n z (ms.map (stI z)) where
  nd := by
    rw [List.nodup_iff_pairwise_ne, List.pairwise_map]
    exact (List.nodup_iff_pairwise_ne.mp hnd).imp fun {a b} h q => h (stI_inj hz q)
  len := fun x hx => by obtain ⟨i, _, rfl⟩ := List.mem_map.mp hx; exact stI_len z i
  up := fun x hx => by
    obtain ⟨i, _, rfl⟩ := List.mem_map.mp hx
    show ((SH.st z i).map fun n : Nat => (n : Int)).Pairwise (· < ·)
    rw [List.pairwise_map]
    exact (SH.st_up hz).imp fun {a b} h => by omega
  lt := fun x hx a ha => by
    obtain ⟨i, hi, rfl⟩ := List.mem_map.mp hx
    obtain ⟨m, hm, rfl⟩ := List.mem_map.mp ha
    have := st_small hz (hb i hi) hm
    omega
theorem Gd.mono {n m z : Nat} {F : List (List Int)} (g : Gd n z F) (h : n ≤ m) : Gd m z F := ⟨g.nd, g.len, g.up, fun x hx a ha => by have := g.lt x hx a ha; omega⟩
theorem Gd.shadow {n z : Nat} {F T : List (List Int)} (g : Gd n z F) (hnd : T.Nodup) (hT : ∀ y, y ∈ T ↔ ∃ x ∈ F, ∃ p, p < x.length ∧ y = cutI x p) : Gd n (z - 1) T where
  nd := hnd
  len := fun y hy => by obtain ⟨x, hx, p, hp, rfl⟩ := (hT y).mp hy; have := cutI_len hp; have := g.len x hx; omega
  up := fun y hy => by obtain ⟨x, hx, p, hp, rfl⟩ := (hT y).mp hy; exact cut_up (g.up x hx) hp
  lt := fun y hy a ha => by obtain ⟨x, hx, p, hp, rfl⟩ := (hT y).mp hy; exact g.lt x hx a (cut_mem ha)
end K04

namespace K04
open PySem L2 Exc
noncomputable def mt (x y : List Int) : Bool := x.any fun a => decide (a ∈ y)
noncomputable def spMt (K : PySem.W.Frag) : Sp := fun vs H Q _ => ∃ (p q : Addr) (xs ys : List Int), vs = [.ref p, .ref q] ∧ SqT K H p (xs.map V.int) ∧ SqT K H q (ys.map V.int) ∧ xs.length ≤ 100 ∧ ∀ H2, Same H H2 → Q (.bl (mt xs ys)) H2
noncomputable def MeetB (F : List (List Int)) (j : Nat) : Prop := ∀ j', j' < j → ∀ i, i < j' → mt (F.getD i []) (F.getD j' []) = true
noncomputable def Fst2 (F : List (List Int)) (i j : Nat) : Prop := j < F.length ∧ i < j ∧ mt (F.getD i []) (F.getD j []) = false ∧ MeetB F j ∧ ∀ i', i' < i → mt (F.getD i' []) (F.getD j []) = true
theorem Fst2.uniq {F : List (List Int)} {i j i2 j2 : Nat} (h : Fst2 F i j) (h2 : Fst2 F i2 j2) : i = i2 ∧ j = j2 := by
  obtain ⟨a1, a2, a3, a4, a5⟩ := h
  obtain ⟨b1, b2, b3, b4, b5⟩ := h2
  have ej : j = j2 := by
    rcases Nat.lt_trichotomy j j2 with q | q | q
    · have := b4 j q i a2; rw [a3] at this; cases this
    · exact q
    · have := a4 j2 q i2 b2; rw [b3] at this; cases this
  subst ej
  refine ⟨?_, rfl⟩
  rcases Nat.lt_trichotomy i i2 with q | q | q
  · have := b5 i q; rw [a3] at this; cases this
  · exact q
  · have := a5 i2 q; rw [b3] at this; cases this
theorem Fst2.no {F : List (List Int)} {i j : Nat} (h : Fst2 F i j) (h2 : MeetB F F.length) : False := by
  have := h2 j h.1 i h.2.1
  rw [h.2.2.1] at this; cases this
noncomputable def spAp (aF : Addr) : Sp := fun vs H Q E => ∃ (f : Addr) (as : List Addr) (F : List (List Int)), vs = [.ref f] ∧ H f = some (.lst (as.map V.ref)) ∧ TupsH H as F ∧ as.length ≤ 100000 ∧ ((isFam F = false ∧ ∀ H2, Same H H2 → E (.ref aF) none H2) ∨ (isFam F = true ∧  (MeetB F F.length → ∀ H2, Same H H2 → Q .non H2) ∧
  ∀ i j, Fst2 F i j → ∀ t H2, Same H H2 → H2 t = some (.tup [.int (i : Int), .int (j : Int)]) → Q (.ref t) H2))
theorem flat_i (ys : List Int) : (ys.map V.int).all flatV = true := by
  rw [List.all_eq_true]
  intro v hv
  obtain ⟨n, _, rfl⟩ := List.mem_map.mp hv
  rfl
theorem in_i (a : Int) (ys : List Int) : inV (.int a) (ys.map V.int) = decide (a ∈ ys) := by
  unfold inV
  rw [Bool.eq_iff_iff, List.any_eq_true, decide_eq_true_iff]
  constructor
  · rintro ⟨v, hv, e⟩
    obtain ⟨n, hn, rfl⟩ := List.mem_map.mp hv
    have : n = a := by simpa [eqV] using e
    subst this; exact hn
  · intro h
    exact ⟨.int a, List.mem_map.mpr ⟨a, h, rfl⟩, by simp [eqV]⟩
section
variable {P : Program} {w : World} {K : PySem.W.Frag} {mg : Str → Option Value} {base : Heap}
theorem sc_meet : FnScope ["one", "other"] ["one", "other"] (defScope (top 19)) := ⟨rfl, rfl, rfl, by decide +kernel, rfl, by decide +kernel, by decide +kernel⟩
theorem ok_meet {f : Addr} {fd : FuncData} (F : Fun K "meet" "meet" (top 19) f fd) (B : Bt mg) : FnOk P w K mg base CX0 3 f fd ["one", "other"] (spMt K) := by
  have nd := sc_meet.nd
  refine F.ok sc_meet (fun vs H Q E h => ?_) (fun cdv A outer s H vs Q E hr h => ?_)
  · obtain ⟨p, q, xs, ys, rfl, _⟩ := h
    rfl
  · obtain ⟨p, q, xs, ys, rfl, hp, hq, hl, k⟩ := h
    refine ⟨_, (pss_one (ps_ret (pe_callB (call_anyK (K := K) rfl) rfl B.any b_any (pa_cons (pe_comp ["thing"] [1] ⟨rfl, by decide +kernel, by decide +kernel, of_decide_eq_true (by kernel_rfl), fun j hj => by rcases (by simpa using hj : j = 1) with rfl <;> exact ⟨_, rfl, by kernel_rfl⟩⟩ rfl (gown_name (by decide)) (pi_tup (pv 0)) (fun _ _ _ _ => (pg_name (i := 0) (show (["thing", "other"] : List Str).Nodup from by decide +kernel) rfl (Or.inl rfl) (.inr rfl))) (fun _ _ _ _ => pifs_nil) (fun _ _ _ _ => (pe_cmpR (op_inK (K := K)) (pv 0) (pv 1) (by with_unfolding_all rfl)))) pa_nil)))), ?_⟩
    refine ⟨_, rfl, p, rfl, ⟨_, hp⟩, fun D hD => ?_⟩
    refine comps_by xs.length (fun i Hi => Same H Hi ∧ Hi D = some (.lst (((xs.take i).map fun a => decide (a ∈ ys)).map V.bl))) ⟨upd_fresh hD, upd_same⟩ ?_ ?_
    · rintro Hi ⟨s1, hl1⟩
      refine ⟨⟨_, s1.sqT hp, by rw [List.length_map]; exact Nat.le_refl _⟩, D, _, rfl, .inl (.inl hl1), ?_⟩
      rw [List.take_length]
      have e : ((xs.map fun a => decide (a ∈ ys)).any id) = mt xs ys := by rw [List.any_map]; rfl
      rw [e]
      exact k _ s1
    · rintro i Hi hi ⟨s1, hl1⟩
      have hx : (xs.map V.int)[i]? = some (.int xs[i]) := by rw [List.getElem?_map, List.getElem?_eq_getElem hi]; rfl
      refine ⟨⟨_, _, s1.sqT hp, hx⟩, ?_⟩
      rintro x H' ⟨rfl, hy⟩
      have ey := hy _ (s1.sqT hp)
      rw [hx] at ey
      cases ey
      unfold gName
      refine yes_go ?_
      refine ⟨_, rfl, _, rfl, q, _, rfl, .inr (s1.sqT hq), rfl, flat_i ys, ?_⟩
      refine ⟨_, hl1, (by rw [List.length_map, List.length_map, List.length_take]; exact small1000 (by omega)), _, by omega, rfl, hi, ?_, ?_⟩
      · exact fun b o e => by rw [upd_ne (ne_of_none e hD)]; exact s1 b o e
      · rw [upd_same]
        show some (HO.lst (((xs.take i).map fun a => decide (a ∈ ys)).map V.bl ++ [V.bl (inV (.int xs[i]) (ys.map V.int))])) = _
        rw [in_i, List.take_succ_eq_append_getElem hi, List.map_append, List.map_append]
        rfl
theorem sc_apart : FnScope ["family", "later", "other", "earlier"] ["family"] (defScope (top 20)) := ⟨rfl, rfl, rfl, by decide +kernel, rfl, by decide +kernel, by decide +kernel⟩
theorem ok_apart {f : Addr} {fd : FuncData} (F : Fun K "apart" "apart" (top 20) f fd) {aBadFamily : Addr} (B : Bt mg) (c_check_family : CalX P w K mg base "check_family" 5 (spCk aBadFamily)) (c_meet : Cal P w K mg base "meet" 3 (spMt K)) : FnOk P w K mg base (CX1 P w) 7 f fd ["family"] (spAp aBadFamily) := by
  have nd := sc_apart.nd
  refine F.okX sc_apart (fun vs H Q E h => ?_) (fun cdv A outer s H vs Q E hr h => ?_)
  · obtain ⟨p, as, F, rfl, _⟩ := h
    rfl
  · obtain ⟨p, as, F, rfl, hp, ht, h8, h9⟩ := h
    have hal := ht.len
    refine ⟨_, (pss_cons (ps_expr (pe_calY c_check_family (hr.mono (by decide)) rfl (pa_cons (pv 0) pa_nil)))
        (PSs.nox (pss_cons (ps_for PassesOwn.never rfl (pi_enumL rfl B.enumerate (pv 0)) (pg_tup rfl (pgs_cons (pg_name (i := 1) nd rfl (Or.inl rfl)) (pgs_cons (pg_name (i := 2) nd rfl (Or.inl rfl)) pgs_nil))) (pss_one (ps_for PassesOwn.never rfl (pi_range1 rfl B.range (pa_cons (pv 1) pa_nil)) (pg_name (i := 3) nd rfl (Or.inl rfl)) (pss_one (ps_if (pt_not (pt_val (pe_cal c_meet (hr.mono (by decide)) rfl (pa_cons (pe_ix (r := rIxL K) ix_list (pv 0) (pv 3) (fun _ _ => rfl)) (pa_cons (pv 2) pa_nil))))) (pss_one (ps_ret (pe_tup (pa_cons (pv 3) (pa_cons (pv 1) pa_nil))))) pss_nil)))))
        (pss_one (ps_ret pe_non))))), ?_⟩
    rcases h9 with ⟨hF, k⟩ | ⟨hF, kN, kT⟩
    · exact ⟨_, rfl, p, as, F, rfl, hp, ht, h8, .inl ⟨hF, k⟩⟩
    obtain ⟨h200, n, hn⟩ := fam_len hF
    refine ⟨_, rfl, p, as, F, rfl, hp, ht, by omega, .inr ⟨hF, fun H1 s1 => ?_⟩⟩
    refine ⟨_, rfl, p, rfl, ⟨_, .inl (.inl (s1 _ _ hp))⟩, ?_⟩
    refine for_enumL (K := K) (a := p) (xs := as.map V.ref) (fun j σ H2 => ∃ (v v2 v3 : Option V), σ = [some (.ref p), v, v2, v3] ∧ Same H H2 ∧ MeetB F j) ⟨none, none, none, rfl, s1, fun j' hj' => absurd hj' (Nat.not_lt_zero _)⟩ (fun i σ H2 _ ⟨_, _, _, _, e, _⟩ => .inl (.inl (e _ _ hp))) ?_ ?_
    · rintro j y σ H2 T hy ⟨v, v2, v3, rfl, s2, hm⟩ hT
      rw [List.getElem?_map] at hy
      obtain ⟨b, hb, rfl⟩ := Option.map_eq_some_iff.mp hy
      obtain ⟨ys, hys, hHb⟩ := ht.at hb
      have hj : j < F.length := (List.getElem?_eq_some_iff.mp hys).1
      have ejF : F.getD j [] = ys := by rw [List.getD_eq_getElem?_getD, hys]; rfl
      refine ⟨T, _, rfl, .inl (.inl upd_same), rfl, _, _, rfl, _, _, rfl, rfl, ?_⟩
      have s3 := s2.trans (upd_fresh hT (o := .tup [.int ((j : Nat) : Int), .ref b]))
      refine ⟨_, rfl, _, rfl, by omega, by omega, ?_⟩
      refine for_range (fun i σ H3 => ∃ (v3 : Option V), σ = [some (.ref p), some (.int ((j : Nat) : Int)), some (.ref b), v3] ∧ Same H H3 ∧ ∀ i', i' < i → mt (F.getD i' []) (F.getD j []) = true) ⟨v3, rfl, s3, fun i' h => absurd h (Nat.not_lt_zero _)⟩ ?_ ?_
      · rintro i σ H3 hi ⟨v3, rfl, s4, hmi⟩
        have hi : i < j := by omega
        obtain ⟨a, ha⟩ : ∃ a, as[i]? = some a := ⟨as[i]'(by omega), List.getElem?_eq_getElem (by omega)⟩
        obtain ⟨xs, hxs, hHa⟩ := ht.at ha
        have eiF : F.getD i [] = xs := by rw [List.getD_eq_getElem?_getD, hxs]; rfl
        have hxl := hn xs (List.mem_of_getElem? hxs)
        refine ⟨_, rfl, _, rfl, p, _, _, _, rfl, rfl, .inl (.inl (s4 _ _ hp)), (by rw [Int.zero_add]; exact at_of (i := i) (by rw [List.getElem?_map, ha]; rfl)), _, rfl, a, b, xs, ys, rfl, .inl (.inl (s4 _ _ hHa)), .inl (.inl (s4 _ _ hHb)), by omega, fun H5 s5 => ⟨_, rfl, ?_⟩⟩
        cases hmt : mt xs ys with
        | true =>
          refine iteF ⟨_, rfl, s4.trans s5, fun i' hi' => ?_⟩
          by_cases e : i' = i
          · subst e; rw [eiF, ejF]; exact hmt
          · exact hmi i' (by omega)
        | false =>
          refine iteT ?_
          refine ⟨_, rfl, _, rfl, (by show 2 ≤ sizeLine; decide), fun t ht2 => ?_⟩
          refine kT i j ⟨hj, hi, by rw [eiF, ejF]; exact hmt, hm, hmi⟩ t _ ((s4.trans s5).trans (upd_fresh ht2)) ?_
          rw [upd_same, Int.zero_add]
      · rintro σ H3 ⟨v3, rfl, s4, hmi⟩
        have el : (((j : Nat) : Int)).toNat = j := by omega
        rw [el] at hmi
        refine ⟨_, _, v3, rfl, s4, fun j' hj' i hi => ?_⟩
        by_cases e : j' = j
        · subst e; exact hmi i hi
        · exact hm j' (by omega) i hi
    · rintro σ H2 ⟨v, v2, v3, rfl, s2, hm⟩
      have hl : (as.map V.ref).length = F.length := by rw [List.length_map, hal]
      rw [hl] at hm
      exact kN hm H2 s2
end
end K04

namespace K04
open PySem L2 Exc
noncomputable def mvI (x : List Int) (j i : Int) : List Int := (x.map fun t => if t = j then i else t).mergeSort (fun a b => decide (a ≤ b))
noncomputable def pset (F : List (List Int)) (x : List Int) (j i : Int) : List Int := if j ∉ x ∨ i ∈ x then x else if mvI x j i ∈ F then x else mvI x j i
theorem mv_le (x : List Int) (j i : Int) : (mvI x j i).Pairwise (· ≤ ·) := by
  unfold mvI
  exact (List.pairwise_mergeSort (fun a b c h1 h2 => by simp at *; omega) (fun a b => by simp; omega) _).imp fun {a b} h => of_decide_eq_true h
theorem mv_of {x ms : List Int} {j i : Int} (hp : ms.Perm (x.map fun t => if t = j then i else t)) (hs : ms.Pairwise (· ≤ ·)) : ms = mvI x j i :=
  List.Perm.eq_of_pairwise (le := (· ≤ ·)) (fun a b _ _ h1 h2 => by omega) hs (mv_le x j i) (hp.trans (List.mergeSort_perm _ _).symm)
theorem mv_len (x : List Int) (j i : Int) : (mvI x j i).length = x.length := by
  unfold mvI; rw [(List.mergeSort_perm _ _).length_eq, List.length_map]
theorem pset_len (F : List (List Int)) (x : List Int) (j i : Int) : (pset F x j i).length = x.length := by
  unfold pset
  split
  · rfl
  · split
    · rfl
    · exact mv_len x j i
noncomputable def spPs : Sp := fun vs H Q _ => ∃ (f p : Addr) (as : List Addr) (F : List (List Int)) (xs : List Int) (j i : Int), vs = [.ref f, .ref p, .int j, .int i] ∧ H f = some (.lst (as.map V.ref)) ∧ TupsH H as F ∧ H p = some (.tup (xs.map V.int)) ∧ xs.length ≤ 100 ∧ ∀ t H2, Same H H2 → H2 t = some (.tup ((pset F xs j i).map V.int)) → Q (.ref t) H2
noncomputable def spPu (aF : Addr) : Sp := fun vs H Q E => ∃ (f : Addr) (as : List Addr) (F : List (List Int)) (j i : Int), vs = [.ref f, .int j, .int i] ∧ H f = some (.lst (as.map V.ref)) ∧ TupsH H as F ∧ as.length ≤ 100000 ∧ ((isFam F = false ∧ ∀ H2, Same H H2 → E (.ref aF) none H2) ∨ (isFam F = true ∧
  ∀ (l : Addr) (H2 : Hp) (bs : List Addr) (G : List (List Int)), Same H H2 → H l = none → H2 l = some (.lst (bs.map V.ref)) → TupsH H2 bs G → G.Perm (F.map fun x => pset F x j i) → G.Pairwise (fun x y => HT.lexLt y.reverse x.reverse = false) → Q (.ref l) H2))
section
variable {P : Program} {w : World} {K : PySem.W.Frag} {mg : Str → Option Value} {base : Heap}
theorem sc_pushed_set : FnScope ["family", "one", "j", "i", "other"] ["family", "one", "j", "i"] (defScope (top 17)) := ⟨rfl, rfl, rfl, by decide +kernel, rfl, by decide +kernel, by decide +kernel⟩
theorem ok_pushed_set {f : Addr} {fd : FuncData} (F : Fun K "pushed_set" "pushed_set" (top 17) f fd) (B : Bt mg) : FnOk P w K mg base CX0 3 f fd ["family", "one", "j", "i"] spPs := by
  have nd := sc_pushed_set.nd
  refine F.ok sc_pushed_set (fun vs H Q E h => ?_) (fun cdv A outer s H vs Q E hr h => ?_)
  · obtain ⟨f, p, as, F, xs, j, i, rfl, _⟩ := h
    rfl
  · obtain ⟨f, p, as, F, xs, jj, ii, rfl, hf, ht, hp, hl, k⟩ := h
    have hu := hr.units
    have sp : SqT K H p (xs.map V.int) := .inl (.inl hp)
    refine ⟨_, (pss_cons (ps_if (PW.pt (pw_or (pt_cmpR (op_notInK (K := K)) (pv 2) (pv 1) (by with_unfolding_all rfl)) (pw_or1 (pt_cmpR (op_inK (K := K)) (pv 3) (pv 1) (by with_unfolding_all rfl))))) (pss_one (ps_ret (pv 1))) pss_nil)
        (pss_cons (ps_set (i := 4) nd rfl (Or.inl rfl) (pe_callTy call_tuple_of rfl B.tuple b_tuple (pa_cons (pe_callB (call_sortedI) rfl B.sorted b_sorted (pa_cons (pe_comp ["thing"] [2, 3] ⟨rfl, by decide +kernel, by decide +kernel, of_decide_eq_true (by kernel_rfl), fun j hj => by rcases (by simpa using hj : j = 2 ∨ j = 3) with rfl | rfl <;> exact ⟨_, rfl, by kernel_rfl⟩⟩ rfl (gown_name (by decide)) (pi_tup (pv 1)) (fun _ _ _ _ => (pg_name (i := 0) (show (["thing", "j", "i"] : List Str).Nodup from by decide +kernel) rfl (Or.inl rfl) (.inr rfl))) (fun _ _ _ _ => pifs_nil) (fun _ _ _ _ => (pe_ifExp (pt_cmpR op_eq (pv 0) (pv 1) (nomark _)) (pv 2) (pv 0)))) pa_nil)) pa_nil)))
        (pss_one (ps_ret (pe_ifExp (pt_cmpR (op_inTK (K := K) hu) (pv 4) (pv 0) (by with_unfolding_all rfl)) (pv 1) (pv 4)))))), ?_⟩
    refine ⟨_, rfl, _, rfl, p, _, rfl, .inr sp, rfl, flat_i xs, _, rfl, ite2 (fun h1 => iteT ?_) (fun h1 => ?_)⟩
    · have h1 : jj ∉ xs := fun z => by
        have : (!inV (.int jj) (xs.map V.int)) = true := h1
        rw [in_i, decide_eq_true z] at this; cases this
      refine ⟨_, rfl, k p H (fun _ _ e => e) ?_⟩
      unfold pset; rw [if_pos (.inl h1)]; exact hp
    have h1 : jj ∈ xs := by
      have : ¬ (!inV (.int jj) (xs.map V.int)) = true := h1
      rw [in_i] at this
      simpa using this
    refine ⟨_, rfl, _, rfl, p, _, rfl, .inr sp, rfl, flat_i xs, _, rfl, ite2 (fun h2 => ?_) (fun h2 => ?_)⟩
    · have h2 : ii ∈ xs := by
        have : inV (.int ii) (xs.map V.int) = true := h2
        rw [in_i] at this
        exact of_decide_eq_true this
      refine ⟨_, rfl, k p H (fun _ _ e => e) ?_⟩
      unfold pset; rw [if_pos (.inr h2)]; exact hp
    have h2 : ii ∉ xs := by
      have : ¬ inV (.int ii) (xs.map V.int) = true := h2
      rw [in_i] at this
      exact fun z => this (decide_eq_true z)
    have hno : ¬ (jj ∉ xs ∨ ii ∈ xs) := fun z => z.elim (fun q => q h1) h2
    refine ⟨_, rfl, p, rfl, ⟨_, sp⟩, fun D hD => ?_⟩
    refine comps_by xs.length (fun m Hm => Same H Hm ∧ Hm D = some (.lst (((xs.take m).map fun t => if t = jj then ii else t).map V.int))) ⟨upd_fresh hD, upd_same⟩ ?_ ?_
    · rintro Hm ⟨s1, hl1⟩
      rw [List.take_length] at hl1
      refine ⟨⟨_, s1.sqT sp, by rw [List.length_map]; exact Nat.le_refl _⟩, D, _, rfl, .inl (.inl (.inl hl1)), fun l ms hl0 hpm hms => ?_⟩
      have s2 := s1.trans (upd_fresh hl0 (o := .lst (ms.map V.int)))
      refine ⟨l, _, rfl, .inl ⟨.inl (.inl upd_same), fun t ht0 => ?_⟩⟩
      have s3 := s2.trans (upd_fresh ht0 (o := .tup (ms.map V.int)))
      have em := mv_of hpm hms
      subst em
      refine ⟨_, rfl, _, rfl, f, t, as, F, mvI xs jj ii, rfl, rfl, .inl (.inl (s3 _ _ hf)), (ht.same s3).tat, .inl (.inl upd_same), _, rfl, ite2 (fun h3 => ?_) (fun h3 => ?_)⟩
      · have h3 : mvI xs jj ii ∈ F := by
          have : decide (mvI xs jj ii ∈ F) = true := h3
          exact of_decide_eq_true this
        refine ⟨_, rfl, k p _ s3 ?_⟩
        unfold pset; rw [if_neg hno, if_pos h3]; exact s3 _ _ hp
      · have h3 : mvI xs jj ii ∉ F := fun z => h3 (by show decide (mvI xs jj ii ∈ F) = true; exact decide_eq_true z)
        refine ⟨_, rfl, k t _ s3 ?_⟩
        unfold pset; rw [if_neg hno, if_neg h3]; exact upd_same
    · rintro m Hm hm ⟨s1, hl1⟩
      have hx : (xs.map V.int)[m]? = some (.int xs[m]) := by rw [List.getElem?_map, List.getElem?_eq_getElem hm]; rfl
      refine ⟨⟨_, _, s1.sqT sp, hx⟩, ?_⟩
      rintro x H' ⟨rfl, hy⟩
      have ey := hy _ (s1.sqT sp)
      rw [hx] at ey
      cases ey
      unfold gName
      refine yes_go ?_
      have fin : ∀ y : Int, y = (if xs[m] = jj then ii else xs[m]) → ∃ ys, H' D = some (.lst ys) ∧ ys.length < sizeLine ∧ ∃ m', m' < xs.length - m ∧ (m' = xs.length - (m + 1) ∧ m + 1 ≤ xs.length ∧ (Same H (upd H' D (.lst (ys ++ [.int y]))) ∧ (upd H' D (.lst (ys ++ [.int y]))) D = some (.lst (((xs.take (m + 1)).map fun t => if t = jj then ii else t).map V.int)))) := fun y hy => by
        refine ⟨_, hl1, (by rw [List.length_map, List.length_map, List.length_take]; exact small1000 (by omega)), _, by omega, rfl, hm, ?_, ?_⟩
        · exact fun b o e => by rw [upd_ne (ne_of_none e hD)]; exact s1 b o e
        · rw [upd_same, List.take_succ_eq_append_getElem hm, List.map_append, List.map_append, hy]
          rfl
      refine ⟨_, rfl, _, rfl, rfl, _, rfl, ite2 (fun h3 => ⟨_, rfl, fin _ ?_⟩) (fun h3 => ⟨_, rfl, fin _ ?_⟩)⟩
      · have h3 : xs[m] = jj := by simpa [eqV] using h3
        rw [if_pos h3]
      · have h3 : xs[m] ≠ jj := by simpa [eqV] using h3
        rw [if_neg h3]
theorem sc_pushed : FnScope ["family", "j", "i"] ["family", "j", "i"] (defScope (top 18)) := ⟨rfl, rfl, rfl, by decide +kernel, rfl, by decide +kernel, by decide +kernel⟩
theorem ok_pushed {f : Addr} {fd : FuncData} (F : Fun K "pushed" "pushed" (top 18) f fd) {aBadFamily : Addr} (B : Bt mg) (c_check_family : CalX P w K mg base "check_family" 5 (spCk aBadFamily)) (c_in_order : Cal P w K mg base "in_order" 3 spIO) (c_pushed_set : Cal P w K mg base "pushed_set" 3 spPs) : FnOk P w K mg base (CX1 P w) 7 f fd ["family", "j", "i"] (spPu aBadFamily) := by
  have nd := sc_pushed.nd
  refine F.okX sc_pushed (fun vs H Q E h => ?_) (fun cdv A outer s H vs Q E hr h => ?_)
  · obtain ⟨p, as, F, j, i, rfl, _⟩ := h
    rfl
  · obtain ⟨p, as, F, jj, ii, rfl, hp, ht, h8, h9⟩ := h
    have hal := ht.len
    refine ⟨_, (pss_cons (ps_expr (pe_calY c_check_family (hr.mono (by decide)) rfl (pa_cons (pv 0) pa_nil)))
        (PSs.nox (pss_one (ps_ret (pe_cal c_in_order (hr.mono (by decide)) rfl (pa_cons (pe_comp ["one"] [0, 1, 2] ⟨rfl, by decide +kernel, by decide +kernel, of_decide_eq_true (by kernel_rfl), fun j hj => by rcases (by simpa using hj : j = 0 ∨ j = 1 ∨ j = 2) with rfl | rfl | rfl <;> exact ⟨_, rfl, by kernel_rfl⟩⟩ rfl (gown_name (by decide)) (pi_list (pv 0)) (fun _ _ _ _ => (pg_name (i := 0) (show (["one", "family", "j", "i"] : List Str).Nodup from by decide +kernel) rfl (Or.inl rfl) (.inr rfl))) (fun _ _ _ _ => pifs_nil) (fun _ _ _ _ => (pe_cal c_pushed_set (hr.mono (by decide)) rfl (pa_cons (pv 1) (pa_cons (pv 0) (pa_cons (pv 2) (pa_cons (pv 3) pa_nil))))))) pa_nil)))))), ?_⟩
    rcases h9 with ⟨hF, k⟩ | ⟨hF, k⟩
    · exact ⟨_, rfl, p, as, F, rfl, hp, ht, h8, .inl ⟨hF, k⟩⟩
    obtain ⟨h200, n, hn⟩ := fam_len hF
    refine ⟨_, rfl, p, as, F, rfl, hp, ht, by omega, .inr ⟨hF, fun H1 s1 => ?_⟩⟩
    have hp1 := s1 _ _ hp
    refine ⟨_, rfl, p, rfl, ⟨_, .inl (.inl hp1)⟩, fun D hD => ?_⟩
    have hD0 : H D = none := s1.free hD
    refine comps_by as.length (fun m Hm => Same H1 Hm ∧ ∃ bs : List Addr, Hm D = some (.lst (bs.map V.ref)) ∧ TupsH Hm bs ((F.take m).map fun x => pset F x jj ii)) ⟨upd_fresh hD, [], upd_same, .nil⟩ ?_ ?_
    · rintro Hm ⟨s2, bs, hbs, hT⟩
      rw [hal, List.take_length] at hT
      refine ⟨⟨_, .inl (.inl (s2 _ _ hp1)), by rw [List.length_map]; exact Nat.le_refl _⟩, D, bs, _, rfl, hbs, hT, .inr fun x hx e => ?_, fun l H3 cs G s3 hl0 hl hTG hpm hso => ?_⟩
      · obtain ⟨y, hy, rfl⟩ := List.mem_map.mp hx
        have := pset_len F y jj ii
        rw [e] at this
        have h2 := hn y hy
        simp at this; omega
      · exact k l H3 cs G ((s1.trans s2).trans s3) ((s1.trans s2).free hl0) hl hTG hpm hso
    · rintro m Hm hm ⟨s2, bs, hbs, hT⟩
      obtain ⟨a, ha⟩ : ∃ a, as[m]? = some a := ⟨as[m], List.getElem?_eq_getElem hm⟩
      obtain ⟨xs, hx, hH⟩ := ht.at ha
      have hxl := hn xs (List.mem_of_getElem? hx)
      have hget : (as.map V.ref)[m]? = some (.ref a) := by rw [List.getElem?_map, ha]; rfl
      have hq := s2 _ _ hp1
      refine ⟨⟨_, _, .inl (.inl hq), hget⟩, ?_⟩
      rintro x H' ⟨rfl, hy⟩
      have ey := hy _ (.inl (.inl hq))
      rw [hget] at ey
      cases ey
      unfold gName
      refine yes_go ?_
      have s02 := s1.trans s2
      refine ⟨_, rfl, _, rfl, _, rfl, _, rfl, p, a, as, F, xs, jj, ii, rfl, hq, ht.same s02, s02 _ _ hH, by omega, fun t H3 s3 ht3 => ?_⟩
      have hb3 := s3 _ _ hbs
      have hbl : bs.length ≤ 200 := by rw [hT.len, List.length_map, List.length_take]; omega
      have htD : t ≠ D := fun e => by rw [e, hb3] at ht3; cases ht3
      refine ⟨_, hb3, (by rw [List.length_map]; exact small1000 (by omega)), _, by omega, rfl, hm, same_put (s2.trans s3) hD, bs ++ [t], by rw [upd_same, List.map_append]; rfl, ?_⟩
      rw [List.take_add_one, hx, List.map_append]
      exact ((hT.same s3).put hb3).snoc (by rw [upd_ne htD]; exact ht3)
end
end K04

namespace K04
open PySem L2 Exc
noncomputable def sI (x : Int) : Str := Str.ofString (toString x)
noncomputable def wS (xs : List Int) : Str := Txt.join (Str.ofString ".") (xs.map sI)
noncomputable def tF (F : List (List Int)) : Str := Txt.join (Str.ofString " ") (F.map wS)
theorem dot_eq : Str.ofString "." = ⟨#[46]⟩ := by decide +kernel
theorem blank_eq : Str.ofString " " = ⟨#[32]⟩ := by decide +kernel
noncomputable def Sm (x : Int) : Prop := 0 ≤ x ∧ x < 12
theorem sm_cases {p : Int → Prop} (h : ∀ n : Fin 12, p (n.val : Int)) {x : Int} (s : Sm x) : p x := by
  obtain ⟨h1, h2⟩ := s
  have := h ⟨x.toNat, by omega⟩
  have e : ((x.toNat : Nat) : Int) = x := by omega
  rw [← e]; exact this
theorem sI_len {x : Int} (s : Sm x) : (sI x).length ≤ 2 ∧ 46 ∉ (sI x).cps.toList ∧ 32 ∉ (sI x).cps.toList ∧ 1 ≤ (sI x).length :=
  sm_cases (p := fun x => (sI x).length ≤ 2 ∧ 46 ∉ (sI x).cps.toList ∧ 32 ∉ (sI x).cps.toList ∧ 1 ≤ (sI x).length) (by decide +kernel) s
theorem log_sm {x : Int} (s : Sm x) : x.natAbs.log2 < 1920 := sm_cases (p := fun x => x.natAbs.log2 < 1920) (by decide +kernel) s
theorem fold_le (c b : Nat) : ∀ (ts : List Str) (n : Nat), (∀ t ∈ ts, t.length ≤ b) → ts.foldl (fun x1 x2 => x1 + x2.length + c) n ≤ n + ts.length * (b + c)
  | [], n, _ => by simp
  | t :: ts, n, h => by
    have h1 := fold_le c b ts (n + t.length + c) fun x hx => h x (List.mem_cons_of_mem _ hx)
    have h2 := h t List.mem_cons_self
    rw [List.foldl_cons, List.length_cons, Nat.add_mul]
    omega
theorem join_ok {sep : Str} {ts : List Str} {b : Nat} (h : ∀ t ∈ ts, t.length ≤ b) (hs : sep.length ≤ 1) (hl : ts.length * (b + 1) ≤ 100000) : JoinOk sep ts = true := by
  unfold JoinOk Builtin.Str.tooLong
  have h1 := fold_le sep.length b ts 0 h
  have h2 : ts.length * (b + sep.length) ≤ ts.length * (b + 1) := Nat.mul_le_mul_left _ (by omega)
  rw [List.foldl_toArray']
  · rw [Bool.not_eq_true', decide_eq_false_iff_not, sizeLine_eq]
    omega
  · rfl
theorem jn_len (c b : Nat) : ∀ ts : List (List Nat), (∀ t ∈ ts, t.length ≤ b) → (Tx1.jn c ts).length ≤ ts.length * (b + 1)
  | [], _ => by simp [Tx1.jn]
  | [a], h => by have := h a (by simp); simp [Tx1.jn]; omega
  | a :: a2 :: r, h => by
    have h1 := jn_len c b (a2 :: r) fun t ht => h t (List.mem_cons_of_mem _ ht)
    have h2 := h a (by simp)
    rw [Tx1.jn, List.length_append, List.length_cons]
    rw [List.length_cons (a := a), Nat.add_mul]
    omega
theorem join_len {c b : Nat} {ts : List Str} (h : ∀ t ∈ ts, t.length ≤ b) : (Txt.join ⟨#[c]⟩ ts).length ≤ ts.length * (b + 1) := by
  have e1 : Txt.join ⟨#[c]⟩ ts = Str.join ⟨#[c]⟩ ts := StrLaws.glued_eq_join _ ts
  have h1 := jn_len c b (ts.map fun t => t.cps.toList) fun t ht => by
    obtain ⟨s, hs, rfl⟩ := List.mem_map.mp ht; exact h s hs
  rw [← Tx1.join_cps, List.length_map] at h1
  rw [e1]; exact h1
theorem jn_mem {c : Nat} : ∀ {ts : List (List Nat)} {d : Nat}, d ∈ Tx1.jn c ts → d = c ∨ ∃ t ∈ ts, d ∈ t
  | [], d, h => by simp [Tx1.jn] at h
  | [a], d, h => .inr ⟨a, by simp, h⟩
  | a :: a2 :: r, d, h => by
    rw [Tx1.jn] at h
    rcases List.mem_append.mp h with h | h
    · exact .inr ⟨a, by simp, h⟩
    · rcases List.mem_cons.mp h with h | h
      · exact .inl h
      · rcases jn_mem h with h | ⟨t, ht, h⟩
        · exact .inl h
        · exact .inr ⟨t, List.mem_cons_of_mem _ ht, h⟩
theorem wS_len {xs : List Int} (h : ∀ a ∈ xs, Sm a) (hl : xs.length ≤ 6) : (wS xs).length ≤ 18 ∧ 32 ∉ (wS xs).cps.toList := by
  unfold wS
  rw [dot_eq]
  constructor
  · have := join_len (c := 46) (b := 2) (ts := xs.map sI) fun t ht => by
      obtain ⟨x, hx, rfl⟩ := List.mem_map.mp ht; exact (sI_len (h x hx)).1
    rw [List.length_map] at this
    omega
  · have e1 : Txt.join ⟨#[46]⟩ (xs.map sI) = Str.join ⟨#[46]⟩ (xs.map sI) := StrLaws.glued_eq_join _ _
    rw [e1, Tx1.join_cps]
    intro q
    rcases jn_mem q with q | ⟨t, ht, q⟩
    · exact absurd q (by decide)
    · rw [List.map_map] at ht
      obtain ⟨x, hx, rfl⟩ := List.mem_map.mp ht
      exact (sI_len (h x hx)).2.2.1 q
theorem rises_mem : ∀ {x : List Int} {p : Int}, rises 12 p x = true → -1 ≤ p → ∀ a ∈ x, Sm a
  | [], _, _, _, a, ha => nomatch ha
  | y :: x, p, h, hp, a, ha => by
    rw [rises] at h
    split at h
    · cases h
    · rename_i q
      rcases List.mem_cons.mp ha with rfl | ha
      · exact ⟨by omega, by omega⟩
      · exact rises_mem h (by omega) a ha
theorem fam_up : ∀ {n : Nat} {F seen : List (List Int)}, famGo n seen F = true → ∀ x ∈ F, rises 12 (-1) x = true
  | _, [], _, _, x, hx => nomatch hx
  | n, y :: F, seen, h, x, hx => by
    rw [famGo] at h
    split at h
    · cases h
    · split at h
      · cases h
      · rename_i h2
        rcases List.mem_cons.mp hx with rfl | hx
        · cases e : rises 12 (-1) x with
          | true => rfl
          | false => exact absurd (.inr e) h2
        · exact fam_up h x hx
theorem fam_sm {F : List (List Int)} (h : isFam F = true) : ∀ x ∈ F, (∀ a ∈ x, Sm a) ∧ 1 ≤ x.length ∧ x.length ≤ 6 := fun x hx => by
  obtain ⟨_, n, hn⟩ := fam_len h
  unfold isFam at h
  rw [Bool.and_eq_true] at h
  exact ⟨rises_mem (fam_up h.2 x hx) (by decide), (hn x hx).2⟩
theorem join_dot {xs : List Int} (h : ∀ a ∈ xs, Sm a) (hl : xs.length ≤ 6) : JoinOk (Str.ofString ".") (xs.map sI) = true :=
  join_ok (b := 2) (fun t ht => by obtain ⟨x, hx, rfl⟩ := List.mem_map.mp ht; exact (sI_len (h x hx)).1) (by rw [dot_eq]; decide) (by rw [List.length_map]; omega)
theorem join_blank {F : List (List Int)} (h : isFam F = true) : JoinOk (Str.ofString " ") (F.map wS) = true :=
  join_ok (b := 18) (fun t ht => by obtain ⟨x, hx, rfl⟩ := List.mem_map.mp ht; exact (wS_len (fam_sm h x hx).1 (fam_sm h x hx).2.2).1) (by rw [blank_eq]; decide) (by have := (fam_len h).1; rw [List.length_map]; omega)
noncomputable def spWr (K : PySem.W.Frag) : Sp := fun vs H Q _ => ∃ (p : Addr) (xs : List Int), vs = [.ref p] ∧ SqT K H p (xs.map V.int) ∧ (∀ a ∈ xs, Sm a) ∧ xs.length ≤ 6 ∧ ∀ H2, Same H H2 → Q (.str (wS xs)) H2
noncomputable def spSn (aF : Addr) : Sp := fun vs H Q E => ∃ (p : Addr) (as : List Addr) (F : List (List Int)), vs = [.ref p] ∧ H p = some (.lst (as.map V.ref)) ∧ TupsH H as F ∧ as.length ≤ 100000 ∧ ((isFam F = false ∧ ∀ H2, Same H H2 → E (.ref aF) none H2) ∨ (isFam F = true ∧  ∀ H2, Same H H2 → Q (.str (tF F)) H2))
section
variable {P : Program} {w : World} {K : PySem.W.Frag} {mg : Str → Option Value} {base : Heap}
theorem sc_written_set : FnScope ["one"] ["one"] (defScope (top 22)) := ⟨rfl, rfl, rfl, by decide +kernel, rfl, by decide +kernel, by decide +kernel⟩
theorem ok_written_set {f : Addr} {fd : FuncData} (F : Fun K "written_set" "written_set" (top 22) f fd) (B : Bt mg) : FnOk P w K mg base CX0 2 f fd ["one"] (spWr K) := by
  have nd := sc_written_set.nd
  refine F.ok sc_written_set (fun vs H Q E h => ?_) (fun cdv A outer s H vs Q E hr h => ?_)
  · obtain ⟨p, xs, rfl, _⟩ := h
    rfl
  · obtain ⟨p, xs, rfl, hp, hs, hl, k⟩ := h
    refine ⟨_, (pss_one (ps_ret (pe_bm PySem.F.plainAttrs_str PySem.F.slot_str_join PySem.F.type_str_join (mt_joinK (K := K)) pe_str (pa_cons (pe_comp ["thing"] [] ⟨rfl, by decide +kernel, by decide +kernel, of_decide_eq_true (by kernel_rfl), fun j hj => (nomatch hj)⟩ rfl (gown_name (by decide)) (pi_tup (pv 0)) (fun _ _ _ _ => (pg_name (i := 0) (show (["thing"] : List Str).Nodup from by decide +kernel) rfl (Or.inl rfl) (.inr rfl))) (fun _ _ _ _ => pifs_nil) (fun _ _ _ _ => (pe_callTy call_str_int rfl B.str b_str (pa_cons (pv 0) pa_nil)))) pa_nil)))), ?_⟩
    refine ⟨rfl, ?_⟩
    refine ⟨_, rfl, p, rfl, ⟨_, hp⟩, fun D hD => ?_⟩
    refine comps_by xs.length (fun i Hi => Same H Hi ∧ Hi D = some (.lst (((xs.take i).map sI).map V.str))) ⟨upd_fresh hD, upd_same⟩ ?_ ?_
    · rintro Hi ⟨s1, hl1⟩
      rw [List.take_length] at hl1
      exact ⟨⟨_, s1.sqT hp, by rw [List.length_map]; exact Nat.le_refl _⟩, _, D, _, rfl, rfl, .inl (.inl hl1), join_dot hs hl, k _ s1⟩
    · rintro i Hi hi ⟨s1, hl1⟩
      have hx : (xs.map V.int)[i]? = some (.int xs[i]) := by rw [List.getElem?_map, List.getElem?_eq_getElem hi]; rfl
      refine ⟨⟨_, _, s1.sqT hp, hx⟩, ?_⟩
      rintro x H' ⟨rfl, hy⟩
      have ey := hy _ (s1.sqT hp)
      rw [hx] at ey
      cases ey
      unfold gName
      refine yes_go ?_
      refine ⟨_, rfl, _, rfl, log_sm (hs _ (List.getElem_mem hi)), ?_⟩
      refine ⟨_, hl1, (by rw [List.length_map, List.length_map, List.length_take]; exact small1000 (by omega)), _, by omega, rfl, hi, ?_, ?_⟩
      · exact fun b o e => by rw [upd_ne (ne_of_none e hD)]; exact s1 b o e
      · rw [upd_same]
        show some (HO.lst (((xs.take i).map sI).map V.str ++ [V.str (sI xs[i])])) = _
        rw [List.take_succ_eq_append_getElem hi, List.map_append, List.map_append]
        rfl
theorem sc_shown : FnScope ["family"] ["family"] (defScope (top 23)) := ⟨rfl, rfl, rfl, by decide +kernel, rfl, by decide +kernel, by decide +kernel⟩
theorem ok_shown {f : Addr} {fd : FuncData} (F : Fun K "shown" "shown" (top 23) f fd) {aBadFamily : Addr} (B : Bt mg) (c_check_family : CalX P w K mg base "check_family" 5 (spCk aBadFamily)) (c_written_set : Cal P w K mg base "written_set" 2 (spWr K)) : FnOk P w K mg base (CX1 P w) 7 f fd ["family"] (spSn aBadFamily) := by
  have nd := sc_shown.nd
  refine F.okX sc_shown (fun vs H Q E h => ?_) (fun cdv A outer s H vs Q E hr h => ?_)
  · obtain ⟨p, as, F, rfl, _⟩ := h
    rfl
  · obtain ⟨p, as, F, rfl, hp, ht, h8, h9⟩ := h
    have hlen := ht.len
    refine ⟨_, (pss_cons (ps_expr (pe_calY c_check_family (hr.mono (by decide)) rfl (pa_cons (pv 0) pa_nil)))
        (PSs.nox (pss_one (ps_ret (pe_bm PySem.F.plainAttrs_str PySem.F.slot_str_join PySem.F.type_str_join (mt_joinK (K := K)) pe_str (pa_cons (pe_comp ["one"] [] ⟨rfl, by decide +kernel, by decide +kernel, of_decide_eq_true (by kernel_rfl), fun j hj => (nomatch hj)⟩ rfl (gown_name (by decide)) (pi_list (pv 0)) (fun _ _ _ _ => (pg_name (i := 0) (show (["one"] : List Str).Nodup from by decide +kernel) rfl (Or.inl rfl) (.inr rfl))) (fun _ _ _ _ => pifs_nil) (fun _ _ _ _ => (pe_cal c_written_set (hr.mono (by decide)) rfl (pa_cons (pv 0) pa_nil)))) pa_nil)))))), ?_⟩
    rcases h9 with ⟨hf, k⟩ | ⟨hf, k⟩
    · exact ⟨_, rfl, p, as, F, rfl, hp, ht, h8, .inl ⟨hf, k⟩⟩
    have h200 := (fam_len hf).1
    refine ⟨_, rfl, p, as, F, rfl, hp, ht, by omega, .inr ⟨hf, fun H1 s1 => ?_⟩⟩
    have hp1 := s1 _ _ hp
    have ht1 := ht.same s1
    refine ⟨rfl, ?_⟩
    refine ⟨_, rfl, p, rfl, ⟨_, .inl (.inl hp1)⟩, fun D hD => ?_⟩
    refine comps_by as.length (fun i Hi => Same H1 Hi ∧ Hi D = some (.lst (((F.take i).map wS).map V.str))) ⟨upd_fresh hD, upd_same⟩ ?_ ?_
    · rintro Hi ⟨s2, hl1⟩
      rw [hlen, List.take_length] at hl1
      exact ⟨⟨_, s2.seq (.inl (.inl hp1)), by rw [List.length_map]; exact Nat.le_refl _⟩, _, D, _, rfl, rfl, .inl (.inl hl1), join_blank hf, k _ (s1.trans s2)⟩
    · rintro i Hi hi ⟨s2, hl1⟩
      have hil : i < F.length := by omega
      have hx : (as.map V.ref)[i]? = some (.ref as[i]) := by rw [List.getElem?_map, List.getElem?_eq_getElem hi]; rfl
      refine ⟨⟨_, _, s2.seq (.inl (.inl hp1)), hx⟩, ?_⟩
      rintro x H' ⟨rfl, hy⟩
      have ey := hy _ (s2.seq (.inl (.inl hp1)))
      rw [hx] at ey
      cases ey
      obtain ⟨xs, hx1, hx2⟩ := ht1.at (List.getElem?_eq_getElem hi)
      obtain ⟨_, hx3⟩ := List.getElem?_eq_some_iff.mp hx1
      have hm : xs ∈ F := hx3 ▸ List.getElem_mem hil
      obtain ⟨f1, f2, f3⟩ := fam_sm hf xs hm
      unfold gName
      refine yes_go ?_
      refine ⟨_, rfl, as[i], xs, rfl, .inl (.inl (s2 _ _ hx2)), f1, f3, fun H3 s3 => ?_⟩
      refine ⟨_, s3 _ _ hl1, (by rw [List.length_map, List.length_map, List.length_take]; exact small1000 (by omega)), _, by omega, rfl, hi, ?_, ?_⟩
      · exact fun b o e => by rw [upd_ne (ne_of_none e hD)]; exact (s2.trans s3) b o e
      · rw [upd_same]
        show some (HO.lst (((F.take i).map wS).map V.str ++ [V.str (wS xs)])) = _
        rw [List.take_succ_eq_append_getElem hil, hx3, List.map_append, List.map_append]
        rfl
end
end K04

namespace L2
theorem RoomH.mark {k : Nat} {A : PySem.Around} {v : Option PySem.Value} (r : RoomH k A) : RoomH k (A.mark v) := ⟨r.dp, r.un⟩
end L2
namespace K04
open PySem L2 Exc
noncomputable def spMk (K : PySem.W.Frag) (aB aN aF aT : Addr) : Sp := fun vs H Q _ => ∃ (ea C : Addr) (b1 b2 b3 b4 b5 : Bool), vs = [.ref ea] ∧ H ea = some (.ext (isExc C ea)) ∧ XK1 K C ∧ PySem.W.kitOne K (.ref C) (.ref aB) = some b1 ∧ PySem.W.kitOne K (.ref C) (.ref aN) = some b2 ∧
  PySem.W.kitOne K (.ref C) (.ref aF) = some b3 ∧ PySem.W.kitOne K (.ref C) (.ref aT) = some b4 ∧ PySem.W.kitOne K (.ref C) (.type "ValueError") = some b5 ∧ ∀ l H2, Same H H2 → H2 l = some (.lst [.bl b1, .bl b2, .bl b3, .bl b4, .bl (!b5)]) → Q (.ref l) H2
section
variable {P : Program} {w : World} {K : PySem.W.Frag} {mg : Str → Option Value} {base : Heap}
theorem sc__law_marks_of : FnScope ["e", "marks"] ["e"] (defScope (top 29)) := ⟨rfl, rfl, rfl, by decide +kernel, rfl, by decide +kernel, by decide +kernel⟩
theorem ok__law_marks_of {f : Addr} {fd : FuncData} {aBadSet aNoSuch aBadFamily aNoText : Addr} (F : Fun K "_law_marks_of" "_law_marks_of" (top 29) f fd) (B : Bt mg) (MBadSet : mg "BadSet" = some (.ref aBadSet)) (MNoSuch : mg "NoSuch" = some (.ref aNoSuch)) (MBadFamily : mg "BadFamily" = some (.ref aBadFamily)) (MNoText : mg "NoText" = some (.ref aNoText)) :
    FnOkH P w K mg base 1 f fd ["e"] (spMk K aBadSet aNoSuch aBadFamily aNoText) := by
  have nd := sc__law_marks_of.nd
  refine F.okH sc__law_marks_of (fun vs H Q E h => ?_) (fun cdv A outer s H vs Q E hr h => ?_)
  · obtain ⟨ea, C, b1, b2, b3, b4, b5, rfl, _⟩ := h
    rfl
  · obtain ⟨ea, C, b1, b2, b3, b4, b5, rfl, hH, xk, k1, k2, k3, k4, k5, k⟩ := h
    refine ⟨_, (pss_cons (ps_set (i := 1) nd rfl (Or.inl rfl) (pe_lst (pa_cons (pe_isX (v := .ref aBadSet) rfl B.isinstance (pv 0) (fun _ _ _ _ _ I q => ld_glob I rfl MBadSet q)) (pa_cons (pe_isX (v := .ref aNoSuch) rfl B.isinstance (pv 0) (fun _ _ _ _ _ I q => ld_glob I rfl MNoSuch q)) (pa_cons (pe_isX (v := .ref aBadFamily) rfl B.isinstance (pv 0) (fun _ _ _ _ _ I q => ld_glob I rfl MBadFamily q)) (pa_cons (pe_isX (v := .ref aNoText) rfl B.isinstance (pv 0) (fun _ _ _ _ _ I q => ld_glob I rfl MNoText q)) pa_nil))))))
        (pss_one (ps_ret (pe_op op_cat (pv 1) (pe_lst (pa_cons (pe_not (pe_isX (v := .type "ValueError") rfl B.isinstance (pv 0) (fun _ _ _ _ _ I q => ld_blt I rfl B.ValueError b_ValueError q))) pa_nil)))))), ?_⟩
    refine ⟨_, rfl, ea, C, b1, rfl, hH, xk, k1, _, rfl, ea, C, b2, rfl, hH, xk, k2, _, rfl, ea, C, b3, rfl, hH, xk, k3, _, rfl, ea, C, b4, rfl, hH, xk, k4, (by show 4 ≤ sizeLine; decide), fun l hl => ?_⟩
    have nel : ea ≠ l := ne_of_none hH hl
    refine ⟨_, rfl, _, rfl, ea, C, b5, rfl, (by rw [upd_ne nel]; exact hH), xk, k5, _, rfl, (by show 1 ≤ sizeLine; decide), fun l2 hl2 => ?_⟩
    have nl : l ≠ l2 := fun z => by rw [← z, upd_same] at hl2; cases hl2
    refine ⟨l, l2, _, _, rfl, rfl, (by rw [upd_ne nl, upd_same]), upd_same, (by show 4 + 1 ≤ sizeLine; decide), fun p hp => ?_⟩
    exact k p _ ((upd_fresh hl).trans ((upd_fresh hl2).trans (upd_fresh hp))) (by rw [upd_same]; rfl)
end
end K04

namespace K04
open PySem L2 Exc
noncomputable def spAs (aF : Addr) : Sp := fun vs H Q E => ∃ (way j i : Int) (f : Addr) (as : List Addr) (F : List (List Int)), vs = [.int way, .ref f, .int j, .int i] ∧ H f = some (.lst (as.map V.ref)) ∧ TupsH H as F ∧ as.length ≤ 100000 ∧
  ((isFam F = false ∧ ∀ H2, Same H H2 → E (.ref aF) none H2) ∨ (isFam F = true ∧ ∀ H2, Same H H2 → Q .non H2))
noncomputable def spLm : Sp := fun vs H Q _ => ∃ (way j i : Int) (f : Addr) (as : List Addr) (F : List (List Int)), vs = [.int way, .ref f, .int j, .int i] ∧ H f = some (.lst (as.map V.ref)) ∧ TupsH H as F ∧ as.length ≤ 100000 ∧
  ((isFam F = false ∧ ∀ l H2, Same H H2 → H2 l = some (.lst [.bl false, .bl false, .bl true, .bl false, .bl false]) → Q (.ref l) H2) ∨ (isFam F = true ∧ ∀ l H2, Same H H2 → H2 l = some (.lst []) → Q (.ref l) H2))
section
variable {P : Program} {w : World} {K : PySem.W.Frag} {mg : Str → Option Value} {base : Heap}
theorem sc__law_asked : FnScope ["way", "family", "j", "i"] ["way", "family", "j", "i"] (defScope (top 30)) := ⟨rfl, rfl, rfl, by decide +kernel, rfl, by decide +kernel, by decide +kernel⟩
theorem ok__law_asked {f : Addr} {fd : FuncData} (F : Fun K "_law_asked" "_law_asked" (top 30) f fd) {aBadFamily : Addr} (c_shadow : CalX P w K mg base "shadow" 7 (spSh aBadFamily)) (c_pushed : CalX P w K mg base "pushed" 7 (spPu aBadFamily))
    (c_apart : CalX P w K mg base "apart" 7 (spAp aBadFamily)) (c_shown : CalX P w K mg base "shown" 7 (spSn aBadFamily)) : FnOk P w K mg base (CX1 P w) 9 f fd ["way", "family", "j", "i"] (spAs aBadFamily) := by
  have nd := sc__law_asked.nd
  refine F.okX sc__law_asked (fun vs H Q E h => ?_) (fun cdv A outer s H vs Q E hr h => ?_)
  · obtain ⟨way, j, i, f, as, F, rfl, _⟩ := h
    rfl
  · obtain ⟨way, j, i, f, as, F, rfl, hf, ht, hl, h9⟩ := h
    refine ⟨_, (pss_one (ps_if (pt_cmpR op_eq (pv 0) pe_int (nomark _)) (pss_one (ps_expr (pe_calY c_shadow (hr.mono (by decide)) rfl (pa_cons (pv 1) pa_nil)))) (pss_one (ps_if (pt_cmpR op_eq (pv 0) pe_int (nomark _)) (pss_one (ps_expr (pe_calY c_pushed (hr.mono (by decide)) rfl (pa_cons (pv 1) (pa_cons (pv 2) (pa_cons (pv 3) pa_nil)))))) (pss_one (ps_if (pt_cmpR op_eq (pv 0) pe_int (nomark _)) (pss_one (ps_expr (pe_calY c_apart (hr.mono (by decide)) rfl (pa_cons (pv 1) pa_nil)))) (pss_one (ps_expr (pe_calY c_shown (hr.mono (by decide)) rfl (pa_cons (pv 1) pa_nil)))))))))), ?_⟩
    refine ⟨_, rfl, rfl, _, rfl, ite2 (fun _ => ?_) (fun _ => ?_)⟩
    · exact ⟨_, rfl, f, as, F, rfl, hf, ht, hl, h9.imp id fun ⟨hF, k⟩ => ⟨hF, fun _ H2 _ _ s2 _ _ _ _ _ _ => k H2 s2⟩⟩
    refine ⟨_, rfl, rfl, _, rfl, ite2 (fun _ => ?_) (fun _ => ?_)⟩
    · exact ⟨_, rfl, _, rfl, _, rfl, f, as, F, j, i, rfl, hf, ht, hl, h9.imp id fun ⟨hF, k⟩ => ⟨hF, fun _ H2 _ _ s2 _ _ _ _ _ => k H2 s2⟩⟩
    refine ⟨_, rfl, rfl, _, rfl, ite2 (fun _ => ?_) (fun _ => ?_)⟩
    · exact ⟨_, rfl, f, as, F, rfl, hf, ht, hl, h9.imp id fun ⟨hF, k⟩ => ⟨hF, fun _ H2 s2 => k H2 s2, fun _ _ _ _ H2 s2 _ => k H2 s2⟩⟩
    · exact ⟨_, rfl, f, as, F, rfl, hf, ht, hl, h9.imp id fun ⟨hF, k⟩ => ⟨hF, fun H2 s2 => k H2 s2⟩⟩
theorem sc__law_marks : FnScope ["way", "family", "j", "i", "marks", "e"] ["way", "family", "j", "i"] (defScope (top 31)) := ⟨rfl, rfl, rfl, by decide +kernel, rfl, by decide +kernel, by decide +kernel⟩
theorem ok__law_marks {f : Addr} {fd : FuncData} {aBadSet aNoSuch aBadFamily aNoText aHeapError : Addr} (F : Fun K "_law_marks" "_law_marks" (top 31) f fd) (B : Bt mg) (MHeapError : mg "HeapError" = some (.ref aHeapError)) (DHeapError : XD1 K aHeapError)
    (hmro : PySem.W.mroIn K aBadFamily (.ref aHeapError) = some true) (xk : XK1 K aBadFamily) (k1 : PySem.W.kitOne K (.ref aBadFamily) (.ref aBadSet) = some false) (k2 : PySem.W.kitOne K (.ref aBadFamily) (.ref aNoSuch) = some false) (k3 : PySem.W.kitOne K (.ref aBadFamily) (.ref aBadFamily) = some true)
    (k4 : PySem.W.kitOne K (.ref aBadFamily) (.ref aNoText) = some false) (k5 : PySem.W.kitOne K (.ref aBadFamily) (.type "ValueError") = some true)
    (c__law_asked : CalX P w K mg base "_law_asked" 9 (spAs aBadFamily)) (c__law_marks_of : CalH P w K mg base "_law_marks_of" 1 (spMk K aBadSet aNoSuch aBadFamily aNoText)) : FnOk P w K mg base CX0 11 f fd ["way", "family", "j", "i"] spLm := by
  have nd := sc__law_marks.nd
  refine F.ok sc__law_marks (fun vs H Q E h => ?_) (fun cdv A outer s H vs Q E hr h => ?_)
  · obtain ⟨way, j, i, f, as, F, rfl, _⟩ := h
    rfl
  · obtain ⟨way, j, i, f, as, F, rfl, hf, ht, hlen, h9⟩ := h
    have hu := hr.units
    refine ⟨_, (pss_cons (ps_set (i := 4) nd rfl (Or.inl rfl) (pe_lst pa_nil))
        (pss_cons (ps_tryCall (i := 5) c__law_asked (hr.mono (by decide)) rfl (fun _ => (pa_cons (pv 0) (pa_cons (pv 1) (pa_cons (pv 2) (pa_cons (pv 3) pa_nil))))) rfl MHeapError DHeapError nd rfl rfl rfl rfl rfl (fun _ => (pss_one (ps_set (i := 4) nd rfl (Or.inl rfl) (pe_calH c__law_marks_of (hr.h.mark.mono (by decide)) rfl (pa_cons (pv 5) pa_nil))))))
        (pss_one (ps_ret (pv 4))))), ?_⟩
    refine ⟨Nat.zero_le _, fun l hl => ?_⟩
    have s1 := upd_fresh hl (o := .lst [])
    refine ⟨_, rfl, _, rfl, _, rfl, _, rfl, way, j, i, f, as, F, rfl, s1 _ _ hf, ht.same s1, hlen, ?_⟩
    rcases h9 with ⟨hF, k⟩ | ⟨hF, k⟩
    · refine .inl ⟨hF, fun H2 s2 => ⟨aBadFamily, rfl, hmro, fun ea hea => ?_⟩⟩
      refine ⟨_, rfl, ea, aBadFamily, false, false, true, false, true, rfl, upd_same, xk, k1, k2, k3, k4, k5, fun l2 H3 s3 hl2 => ?_⟩
      exact ⟨_, rfl, k l2 H3 ((s1.trans s2).trans ((upd_fresh hea).trans s3)) hl2⟩
    · exact .inr ⟨hF, fun H2 s2 => ⟨_, rfl, k l H2 (s1.trans s2) (s2 _ _ upd_same)⟩⟩
end
end K04

namespace K04
open PySem L2 Exc
theorem _root_.L2.Same.mut {H H1 : Hp} {l t : Addr} {o o2 o3 : HO} (s : Same H H1) (hl : H l = none) (h1 : H1 l = some o) (ht : H1 t = none) : Same H (upd (upd H1 l o2) t o3) := fun b u e => by
  have e1 := s b u e
  rw [upd_ne (ne_of_none e1 ht), upd_ne (ne_of_none e hl)]
  exact e1
end K04

namespace K04
open PySem L2 Exc
theorem rises_pwb (b : Int) : ∀ (ys : List Int) (p : Int), rises b p ys = true → (∀ y ∈ ys, p < y ∧ y < b) ∧ ys.Pairwise (· < ·)
  | [], p, _ => ⟨fun y hy => (nomatch hy), .nil⟩
  | y :: ys, p, h => by
    rw [rises] at h
    split at h
    · cases h
    · rename_i q
      obtain ⟨h1, h2⟩ := rises_pwb b ys y h
      refine ⟨fun z hz => ?_, List.pairwise_cons.mpr ⟨fun z hz => (h1 z hz).1, h2⟩⟩
      rcases List.mem_cons.mp hz with rfl | hz
      · exact ⟨by omega, by omega⟩
      · have := h1 z hz; exact ⟨by omega, this.2⟩
theorem not_upb {b : Int} {ys : List Int} {i j : Nat} {a c : Int} (hij : i < j) (hi : ys[i]? = some a) (hj : ys[j]? = some c) (h : c ≤ a) : rises b (-1) ys = false := by
  cases e : rises b (-1) ys with
  | false => rfl
  | true =>
    obtain ⟨_, h2⟩ := rises_pwb b ys _ e
    obtain ⟨li, ei⟩ := List.getElem?_eq_some_iff.mp hi
    obtain ⟨lj, ej⟩ := List.getElem?_eq_some_iff.mp hj
    have := List.pairwise_iff_getElem.mp h2 i j li lj hij
    rw [ei, ej] at this
    omega
theorem out_badb {b : Int} {ys : List Int} {v : Int} (hi : v ∈ ys) (h : v < 0 ∨ b ≤ v) : rises b (-1) ys = false := by
  cases e : rises b (-1) ys with
  | false => rfl
  | true =>
    have := (rises_pwb b ys _ e).1 v hi
    omega
noncomputable def BadS (ys : List Int) : Prop := ys.length < 1 ∨ 6 < ys.length ∨ rises 12 (-1) ys = false
noncomputable def spBs : Sp := fun vs H Q _ => ∃ (n : Nat) (c : Int), vs = [.int n, .int c] ∧ 1 ≤ n ∧ n ≤ 6 ∧ ∀ t H2 (ys : List Int), Same H H2 → H2 t = some (.tup (ys.map V.int)) → BadS ys → Q (.ref t) H2
noncomputable def rgI (n : Nat) : List Int := (List.range n).map fun i : Nat => (i : Int)
theorem rgI_len (n : Nat) : (rgI n).length = n := by simp [rgI]
theorem rgI_get {n i : Nat} (h : i < n) : (rgI n)[i]? = some (i : Int) := by
  simp [rgI, h]
theorem tail6 {n : Nat} (h1 : 1 ≤ n) (h6 : n ≤ 6) : cutV (cutV [.int 11, .int 12, .int 13, .int 14, .int 15, .int 16, .int 17] none (some ((n : Int) + 1))) (some (-(n : Int))) none = (((List.range n).map fun i : Nat => (12 : Int) + i).map V.int) := by
  rcases (by omega : n = 1 ∨ n = 2 ∨ n = 3 ∨ n = 4 ∨ n = 5 ∨ n = 6) with rfl | rfl | rfl | rfl | rfl | rfl <;> decide +kernel
theorem tail6n {n : Nat} (h1 : 1 ≤ n) (h6 : n ≤ 6) : ¬ (HT.sIx (cutV [.int 11, .int 12, .int 13, .int 14, .int 15, .int 16, .int 17] none (some ((n : Int) + 1))).length 0 (some (-(n : Int))) = 0 ∧ HT.sIx (cutV [.int 11, .int 12, .int 13, .int 14, .int 15, .int 16, .int 17] none (some ((n : Int) + 1))).length (cutV [.int 11, .int 12, .int 13, .int 14, .int 15, .int 16, .int 17] none (some ((n : Int) + 1))).length none = (cutV [.int 11, .int 12, .int 13, .int 14, .int 15, .int 16, .int 17] none (some ((n : Int) + 1))).length) := by
  rcases (by omega : n = 1 ∨ n = 2 ∨ n = 3 ∨ n = 4 ∨ n = 5 ∨ n = 6) with rfl | rfl | rfl | rfl | rfl | rfl <;> decide +kernel
theorem pick2 (x : Int) {far : Int} (hf : 0 ≤ far) : ∃ v : Int, atI [V.int 12, V.int (12 + far)] (x % 2) = some (.int v) ∧ 12 ≤ v := by
  rcases (by omega : x % 2 = 0 ∨ x % 2 = 1) with e | e
  · rw [e]; exact ⟨12, rfl, by omega⟩
  · rw [e]; exact ⟨12 + far, rfl, by omega⟩
theorem mem_last {ys : List Int} {i : Nat} {v : Int} (h : i < ys.length) : v ∈ ys.set i v := List.mem_iff_getElem?.mpr ⟨i, List.getElem?_set_self h⟩
section
variable {P : Program} {w : World} {K : PySem.W.Frag} {mg : Str → Option Value} {base : Heap}
theorem sc__law_bad_set : FnScope ["size", "cell", "far", "way", "one"] ["size", "cell"] (defScope (top 32)) := ⟨rfl, rfl, rfl, by decide +kernel, rfl, by decide +kernel, by decide +kernel⟩
set_option maxHeartbeats 4000000 in
theorem ok__law_bad_set {f : Addr} {fd : FuncData} (F : Fun K "_law_bad_set" "_law_bad_set" (top 32) f fd) (B : Bt mg) : FnOk P w K mg base CX0 4 f fd ["size", "cell"] spBs := by
  have nd := sc__law_bad_set.nd
  refine F.ok sc__law_bad_set (fun vs H Q E h => ?_) (fun cdv A outer s H vs Q E hr h => ?_)
  · obtain ⟨n, c, rfl, _⟩ := h
    rfl
  · obtain ⟨n, c, rfl, hn1, hn6, k⟩ := h
    have hfar : 0 ≤ c / 64 % 1000 := Int.emod_nonneg _ (by decide)
    refine ⟨_, (pss_cons (ps_set (i := 2) nd rfl (Or.inl rfl) (pe_op op_mod (pe_op op_fdiv (pv 1) pe_int) pe_int))
        (pss_cons (ps_set (i := 3) nd rfl (Or.inl rfl) (pe_op op_mod (pv 1) pe_int))
        (pss_cons (ps_if (pt_cmpR op_eq (pv 3) pe_int (nomark _)) (pss_one (ps_ret (pe_tup pa_nil))) pss_nil)
        (pss_cons (ps_if (pt_cmpR op_eq (pv 3) pe_int (nomark _)) (pss_one (ps_ret (pe_tup (pa_cons pe_int (pa_cons pe_int (pa_cons pe_int (pa_cons pe_int (pa_cons pe_int (pa_cons pe_int (pa_cons pe_int pa_nil)))))))))) pss_nil)
        (pss_cons (ps_comp (i := 4) ["thing"] [] ⟨rfl, by decide +kernel, by decide +kernel, of_decide_eq_true (by kernel_rfl), fun j hj => (nomatch hj)⟩ rfl (gown_name (by decide)) nd rfl rfl rfl (pi_range1 rfl B.range (pa_cons (pv 0) pa_nil)) (fun _ _ _ _ => (pg_name (i := 0) (show (["thing"] : List Str).Nodup from by decide +kernel) rfl (Or.inl rfl) (.inr rfl))) (fun _ _ _ _ => pifs_nil) (fun _ _ _ _ => (pv 0)))
        (pss_cons (ps_if (PW.pt (pw_and (pt_cmpR op_eq (pv 3) pe_int (nomark _)) (pw_and1 (pt_cmpR op_gt (pv 0) pe_int (nomark _))))) (pss_one (ps_ret (pe_tupRevK (K := K) rfl rfl B.tuple rfl B.reversed (pv 4)))) pss_nil)
        (pss_cons (ps_if (PW.pt (pw_and (pt_cmpR op_eq (pv 3) pe_int (nomark _)) (pw_and1 (pt_cmpR op_gt (pv 0) pe_int (nomark _))))) (pss_cons (ps_asg (pe_ix (r := rIxL K) ix_list (pv 4) pe_int (fun _ _ => rfl)) (pg_sub (pv 4) pe_int set_list))
        (pss_one (ps_ret (pe_callTy call_tuple_of rfl B.tuple b_tuple (pa_cons (pv 4) pa_nil))))) pss_nil)
        (pss_cons (ps_if (pt_cmpR op_eq (pv 3) pe_int (nomark _)) (pss_one (ps_ret (pe_slice (r := rSlT K) sl_tup (pe_callTy call_tuple_of rfl B.tuple b_tuple (pa_cons (pe_slice (r := rSlL K) sl_list (pe_lst (pa_cons pe_int (pa_cons pe_int (pa_cons pe_int (pa_cons pe_int (pa_cons pe_int (pa_cons pe_int (pa_cons pe_int pa_nil)))))))) po_none (po_some (pe_op op_add (pv 0) pe_int))) pa_nil)) (po_some (pe_un un_neg (pv 0))) po_none))) pss_nil)
        (pss_cons (ps_asg (pe_ix (r := rIxL K) ix_list (pe_lst (pa_cons pe_int (pa_cons (pe_op op_add pe_int (pv 2)) pa_nil))) (pe_op op_mod (pe_op op_fdiv (pv 1) pe_int) pe_int) (fun _ _ => rfl)) (pg_sub (pv 4) (pe_un un_neg pe_int) set_list))
        (pss_cons (ps_if (pt_cmpR op_eq (pv 3) pe_int (nomark _)) (pss_one (ps_asg (pe_op op_sub (pe_un un_neg pe_int) (pv 2)) (pg_sub (pv 4) pe_int set_list))) pss_nil)
        (pss_one (ps_ret (pe_callTy call_tuple_of rfl B.tuple b_tuple (pa_cons (pv 4) pa_nil)))))))))))))), ?_⟩
    refine ⟨_, rfl, _, _, rfl, rfl, ⟨by omega, by omega⟩, _, _, rfl, rfl, (by show (0 : Int) < 1000; decide), ?_⟩
    refine ⟨_, rfl, _, _, rfl, rfl, (by show (0 : Int) < 7; decide), ?_⟩
    refine ⟨_, rfl, rfl, _, rfl, ite2 (fun h0 => ?_) (fun h0 => ?_)⟩
    · exact ⟨Nat.zero_le _, fun t ht => k t _ [] (upd_fresh ht) upd_same (.inl (by decide))⟩
    refine ⟨_, rfl, rfl, _, rfl, ite2 (fun h1 => ?_) (fun h1 => ?_)⟩
    · exact ⟨(by show 7 ≤ sizeLine; decide), fun t ht => k t _ [0, 1, 2, 3, 4, 5, 6] (upd_fresh ht) upd_same (.inr (.inl (by decide)))⟩
    refine ⟨_, rfl, (n : Int), rfl, by omega, by omega, fun D hD => ?_⟩
    refine comps_by n (fun i Hi => Same H Hi ∧ Hi D = some (.lst ((rgI i).map V.int))) ⟨upd_fresh hD, upd_same⟩ ?_ ?_
    · rintro Hi ⟨s1, g1⟩
      refine ⟨by show ((n : Int)).toNat ≤ n; omega, ?_⟩
      have lR := rgI_len n
      have e1 : ∀ {X Y : Prop}, (if false = true then X else Y) → Y := fun {X Y} z => by rw [if_neg (by decide)] at z; exact z
      refine ⟨_, rfl, rfl, _, rfl, ite3 (iteF ?_) (fun hB _ => ⟨_, rfl, _, _, rfl, rfl, _, rfl, ite2 (fun h3 => ?_) (fun _ => e1 hB)⟩)⟩
      rotate_left
      · have h3 : 1 < n := by have : decide ((1 : Int) < (n : Int)) = true := h3; have := of_decide_eq_true this; omega
        refine ⟨_, rfl, D, _, rfl, .inl (.inl g1), fun t ht => ?_⟩
        refine k t _ (rgI n).reverse (s1.trans (upd_fresh ht)) (by rw [upd_same, List.map_reverse]) (.inr (.inr (not_upb (i := 0) (j := 1) (a := ((n - 1 : Nat) : Int)) (c := ((n - 2 : Nat) : Int)) (by decide) ?_ ?_ (by omega))))
        · rw [List.getElem?_reverse (by rw [lR]; omega), lR, rgI_get (by omega)]; congr 2
        · rw [List.getElem?_reverse (by rw [lR]; omega), lR, rgI_get (by omega)]; congr 2
      refine ⟨_, rfl, rfl, _, rfl, ite3 (iteF ?_) (fun hB _ => ⟨_, rfl, _, _, rfl, rfl, _, rfl, ite2 (fun h3 => ?_) (fun _ => e1 hB)⟩)⟩
      rotate_left
      · have h3 : 1 < n := by have : decide ((1 : Int) < (n : Int)) = true := h3; have := of_decide_eq_true this; omega
        refine ⟨_, rfl, D, _, _, .int 1, rfl, rfl, .inl (.inl g1), at_of (i := 1) (by rw [List.getElem?_map, rgI_get h3]; rfl), ?_⟩
        refine ⟨_, rfl, D, _, _, 0, rfl, rfl, g1, ix_of (i := 0) (by rw [List.length_map, lR]; omega), ?_⟩
        refine ⟨_, rfl, D, _, rfl, .inl ⟨.inl (.inl upd_same), fun t ht => ?_⟩⟩
        have ht1 : Hi t = none := by
          by_cases q : t = D
          · rw [q, upd_same] at ht; cases ht
          · rw [upd_ne q] at ht; exact ht
        refine k t _ ((rgI n).set 0 1) (s1.mut (l := D) hD g1 ht1) (by rw [upd_same, List.map_set]) (.inr (.inr (not_upb (i := 0) (j := 1) (a := 1) (c := 1) (by decide) ?_ ?_ (by omega))))
        · rw [List.getElem?_set_self (by rw [lR]; omega)]
        · rw [List.getElem?_set_ne (by decide), rgI_get h3]; rfl
      refine ⟨_, rfl, rfl, _, rfl, ite2 (fun h4 => ?_) (fun h4 => ?_)⟩
      · refine ⟨(by show 7 ≤ sizeLine; decide), fun l1 hl1 => ?_⟩
        refine ⟨_, rfl, _, _, rfl, rfl, _, rfl, l1, _, rfl, .inl (.inl upd_same), fun l2 hl2 => ?_⟩
        refine ⟨l2, _, rfl, .inl ⟨.inl (.inl upd_same), fun t1 ht1 => ?_⟩⟩
        refine ⟨_, rfl, _, rfl, _, rfl, t1, _, rfl, .inl (.inl upd_same), tail6n hn1 hn6, fun t ht => ?_⟩
        refine k t _ ((List.range n).map fun i : Nat => (12 : Int) + i) ((((s1.trans (upd_fresh hl1)).trans (upd_fresh hl2)).trans (upd_fresh ht1)).trans (upd_fresh ht)) (by rw [upd_same]; exact congrArg (fun z => some (HO.tup z)) (tail6 hn1 hn6)) (.inr (.inr (out_badb (v := 12) ?_ (.inr (by decide)))))
        exact List.mem_map.mpr ⟨0, List.mem_range.mpr (by omega), rfl⟩
      obtain ⟨v, hv, hv12⟩ := pick2 (c / 7) hfar
      refine ⟨_, rfl, _, _, rfl, rfl, (by show 2 ≤ sizeLine; decide), fun m2 hm2 => ?_⟩
      have nD : D ≠ m2 := ne_of_none g1 hm2
      refine ⟨_, rfl, _, _, rfl, rfl, ⟨by omega, by omega⟩, _, _, rfl, rfl, (by show (0 : Int) < 2; decide), m2, _, _, _, rfl, rfl, .inl (.inl upd_same), hv, ?_⟩
      have s2 : Same Hi (upd Hi m2 (.lst [.int 12, .int (12 + c / 64 % 1000)])) := upd_fresh hm2
      have g2 := s2 _ _ g1
      revert s2 g2
      generalize upd Hi m2 (.lst [.int 12, .int (12 + c / 64 % 1000)]) = Hj
      intro s2 g2
      have hix : ixN ((rgI n).map V.int).length (-1) = some (n - 1) := by
        rw [List.length_map, lR]
        rcases (by omega : n = 1 ∨ n = 2 ∨ n = 3 ∨ n = 4 ∨ n = 5 ∨ n = 6) with rfl | rfl | rfl | rfl | rfl | rfl <;> decide
      refine ⟨_, rfl, _, rfl, D, _, _, n - 1, rfl, rfl, g2, hix, ?_⟩
      refine ⟨_, rfl, rfl, _, rfl, ite2 (fun h5 => ?_) (fun h5 => ?_)⟩
      · refine ⟨_, rfl, _, rfl, _, _, rfl, rfl, ?_⟩
        refine ⟨_, rfl, D, _, _, 0, rfl, rfl, upd_same, ix_of (i := 0) (by rw [List.length_set, List.length_map, lR]; omega), ?_⟩
        refine ⟨_, rfl, D, _, rfl, .inl ⟨.inl (.inl upd_same), fun t ht => ?_⟩⟩
        rw [upd_upd] at ht ⊢
        have ht1 : Hj t = none := by
          by_cases q : t = D
          · rw [q, upd_same] at ht; cases ht
          · rw [upd_ne q] at ht; exact ht
        refine k t _ (((rgI n).set (n - 1) v).set 0 (-1 - c / 64 % 1000)) ((s1.trans s2).mut (l := D) hD g2 ht1) (by rw [upd_same, List.map_set, List.map_set]) (.inr (.inr (out_badb (v := -1 - c / 64 % 1000) (mem_last (by rw [List.length_set, lR]; omega)) (.inl (by omega)))))
      · refine ⟨_, rfl, D, _, rfl, .inl ⟨.inl (.inl upd_same), fun t ht => ?_⟩⟩
        have ht1 : Hj t = none := by
          by_cases q : t = D
          · rw [q, upd_same] at ht; cases ht
          · rw [upd_ne q] at ht; exact ht
        exact k t _ ((rgI n).set (n - 1) v) ((s1.trans s2).mut (l := D) hD g2 ht1) (by rw [upd_same, List.map_set]) (.inr (.inr (out_badb (v := v) (mem_last (by rw [lR]; omega)) (.inr hv12))))
    · rintro i Hi hi ⟨s1, g1⟩
      refine ⟨by show i < ((n : Int)).toNat; omega, ?_⟩
      rintro x H' ⟨rfl, rfl⟩
      unfold gName
      refine yes_go ?_
      refine ⟨_, rfl, _, g1, ?_, _, by omega, rfl, hi, ?_, ?_⟩
      · rw [List.length_map, rgI_len]; exact small1000 (by omega)
      · exact fun b o e => by rw [upd_ne (ne_of_none e hD)]; exact s1 b o e
      · rw [upd_same]
        unfold rgI
        rw [List.range_succ, List.map_append, List.map_append]
        simp
end
end K04

namespace L2
open PySem PySem.Spec PyProof.Rows
noncomputable def tVia (t u : TS) : TS := fun D σ H => ∃ Good : St → Hp → Prop, t { D with nx := Good } σ H ∧ ∀ σ H, Good σ H → u D σ H
theorem pss_via {X : Cx} {st : Stmt} {rest : List Stmt} {t u : TS} (h1 : PS X st t) (h2 : PSs X rest u) : PSs X (st :: rest) (tVia t u) := by
  intro pins s σ H D I h
  obtain ⟨Good, h, hg⟩ := h
  refine wpAny_execs_cons (thn (h1 pins s σ H { D with nx := Good } I h) fun f s1 q => ?_)
  cases f with
  | next =>
    obtain ⟨σ', H', I', q⟩ := q
    exact h2 pins s1 σ' H' D I' (hg σ' H' q)
  | ret v => exact q
  | brk => exact q
  | cont => exact q
end L2

namespace K04
open PySem L2 Exc
theorem fam_nd : ∀ {n : Nat} {F seen : List (List Int)}, famGo n seen F = true → F.Nodup ∧ ∀ x ∈ F, x ∉ seen
  | _, [], _, _ => ⟨.nil, fun x hx => (nomatch hx)⟩
  | n, y :: F, seen, h => by
    rw [famGo] at h
    split at h
    · cases h
    · split at h
      · cases h
      · rename_i h2
        obtain ⟨q1, q2⟩ := fam_nd h
        refine ⟨List.nodup_cons.mpr ⟨fun z => q2 y z (by simp), q1⟩, fun x hx => ?_⟩
        rcases List.mem_cons.mp hx with rfl | hx
        · exact fun z => h2 (.inl z)
        · exact fun z => q2 x hx (List.mem_append_left _ z)
theorem fam_nodup {F : List (List Int)} (h : isFam F = true) : F.Nodup := by
  unfold isFam at h
  rw [Bool.and_eq_true] at h
  exact (fam_nd h.2).1
theorem no_fam {F : List (List Int)} (h : isFam F = true → False) : isFam F = false := by
  cases e : isFam F with
  | false => rfl
  | true => exact (h e).elim
theorem no_bad {G : List (List Int)} {ys : List Int} (hy : ys ∈ G) (h : BadS ys) : isFam G = false := no_fam fun e => by
  obtain ⟨_, n, hn⟩ := fam_len e
  obtain ⟨_, h1, h6⟩ := hn ys hy
  rcases h with h | h | h
  · omega
  · omega
  · unfold isFam at e
    rw [Bool.and_eq_true] at e
    have := fam_up e.2 ys hy
    rw [h] at this; cases this
theorem no_len {G : List (List Int)} {xs ys : List Int} (hx : xs ∈ G) (hy : ys ∈ G) (h : xs.length ≠ ys.length) : isFam G = false := no_fam fun e => by
  obtain ⟨_, n, hn⟩ := fam_len e
  exact h ((hn xs hx).1.trans (hn ys hy).1.symm)
theorem no_many {G : List (List Int)} (h : 200 < G.length) : isFam G = false := no_fam fun e => by
  have := (fam_len e).1
  omega
theorem no_twice {F0 : List (List Int)} {ys : List Int} (a : Nat) (hy : ys ∈ F0) : isFam ((F0.take a ++ [ys]) ++ F0.drop a) = false := no_fam fun e => by
  have h1 := fam_nodup e
  have h2 : ((F0.take a ++ [ys]) ++ F0.drop a).Perm (ys :: F0) := by
    rw [List.append_assoc]
    refine List.perm_middle.trans ?_
    show (ys :: (F0.take a ++ F0.drop a)).Perm _
    rw [List.take_append_drop]
  exact (List.nodup_cons.mp (h2.nodup_iff.mp h1)).1 hy
theorem in_mid (F0 : List (List Int)) (ys : List Int) (a : Nat) : ys ∈ (F0.take a ++ [ys]) ++ F0.drop a := by simp
theorem in_side {F0 : List (List Int)} {x : List Int} (ys : List Int) (a : Nat) (h : x ∈ F0) : x ∈ (F0.take a ++ [ys]) ++ F0.drop a := by
  rw [← List.take_append_drop a F0] at h
  rcases List.mem_append.mp h with h | h
  · exact List.mem_append_left _ (List.mem_append_left _ h)
  · exact List.mem_append_right _ h
theorem TupsH.take_ {H : Hp} : ∀ {as : List Addr} {F : List (List Int)} (n : Nat), TupsH H as F → TupsH H (as.take n) (F.take n) ∧ TupsH H (as.drop n) (F.drop n)
  | _, _, 0, h => ⟨.nil, h⟩
  | _, _, n + 1, .nil => ⟨.nil, .nil⟩
  | _, _, n + 1, .cons r t => ⟨.cons r (TupsH.take_ n t).1, (TupsH.take_ n t).2⟩
theorem TupsH.app {H : Hp} {as bs : List Addr} {F G : List (List Int)} (h : TupsH H as F) (h2 : TupsH H bs G) : TupsH H (as ++ bs) (F ++ G) := by
  induction h with
  | nil => exact h2
  | cons r t ih => exact .cons r ih
theorem ins_ok {H : Hp} {fs : List Addr} {F0 : List (List Int)} {t : Addr} {ys : List Int} (h : TupsH H fs F0) (e : H t = some (.tup (ys.map V.int))) (a : Nat) : TupsH H ((fs.take a ++ [t]) ++ fs.drop a) ((F0.take a ++ [ys]) ++ F0.drop a) :=
  ((h.take_ a).1.snoc e).app (h.take_ a).2
noncomputable def Gd4 (p S l : Addr) (n z a : Nat) (c : Int) (H3 : Hp) (σ : St) (H9 : Hp) : Prop := ∃ (bl : Addr) (bs : List Addr) (G : List (List Int)) (v8 : Option V),
  σ = [some (.ref p), some (.int (n : Int)), some (.int (z : Int)), some (.ref S), some (.ref l), some (.int c), some (.int (a : Int)), some (.ref bl), v8, none, none, none, none] ∧ Same H3 H9 ∧ H9 bl = some (.lst (bs.map V.ref)) ∧ TupsH H9 bs G ∧ isFam G = false ∧ bs.length ≤ 1000
theorem gd4_mk {p S l l5 t2 : Addr} {n z a : Nat} {c : Int} {H3 Hb He : Hp} {v8 : Option V} {fs : List Addr} {F0 : List (List Int)} {ys : List Int} (sB : Same H3 Hb) (sC : Same Hb He) (h5 : He l5 = some (.lst ((fs.take a).map V.ref ++ [.ref t2] ++ (fs.drop a).map V.ref)))
    (hTf : TupsH H3 fs F0) (gt2 : Hb t2 = some (.tup (ys.map V.int))) (hno : isFam ((F0.take a ++ [ys]) ++ F0.drop a) = false) (hf : fs.length ≤ 200) :
    Gd4 p S l n z a c H3 [some (.ref p), some (.int (n : Int)), some (.int (z : Int)), some (.ref S), some (.ref l), some (.int c), some (.int (a : Int)), some (.ref l5), v8, none, none, none, none] He := by
  refine ⟨l5, (fs.take a ++ [t2]) ++ fs.drop a, _, v8, rfl, sB.trans sC, (by rw [h5, List.map_append, List.map_append]; rfl), ins_ok ((hTf.same sB).same sC) (sC _ _ gt2) a, hno, ?_⟩
  rw [List.length_append, List.length_append, List.length_take, List.length_drop]
  show _ + 1 + _ ≤ _
  omega
theorem len1 {fs : List Addr} (h : fs.length ≤ 200) (a : Nat) (t : Addr) : ((fs.take a).map V.ref).length + ([V.ref t] : List V).length ≤ sizeLine := by
  rw [List.length_map, List.length_take, sizeLine_eq]
  show _ + 1 ≤ _
  omega
theorem len2 {fs : List Addr} (h : fs.length ≤ 200) (a : Nat) (t : Addr) : ((fs.take a).map V.ref ++ [V.ref t]).length + ((fs.drop a).map V.ref).length ≤ sizeLine := by
  rw [List.length_append, List.length_map, List.length_map, List.length_take, List.length_drop, sizeLine_eq]
  show _ + 1 + _ ≤ _
  omega
section
variable {P : Program} {w : World} {K : PySem.W.Frag} {mg : Str → Option Value} {base : Heap}
theorem sc_law : FnScope ["script", "things", "size", "sets", "family", "cell", "at", "bad", "other", "handed", "j", "i", "way"] ["script"] (defScope (top 33)) := ⟨rfl, rfl, rfl, by decide +kernel, rfl, by decide +kernel, by decide +kernel⟩
set_option maxHeartbeats 16000000 in
theorem ok_law {f : Addr} {fd : FuncData} (F : Fun K "law" "law" (top 33) f fd) (B : Bt mg) (c__law_cell_at : Cal P w K mg base "_law_cell_at" 1 (spCell K)) (c__law_sets : Cal P w K mg base "_law_sets" 4 spSets) (c__law_family_by : Cal P w K mg base "_law_family_by" 4 (spFam K)) (c__law_size_of : Cal P w K mg base "_law_size_of" 4 (spSz K))
    (c__law_bad_set : Cal P w K mg base "_law_bad_set" 4 spBs) (c__law_marks : Cal P w K mg base "_law_marks" 11 spLm) : FnOk P w K mg base CX0 13 f fd ["script"] (spLaw K) := by
  have nd := sc_law.nd
  refine F.ok sc_law (fun vs H Q E h => ?_) (fun cdv A outer s H vs Q E hr h => ?_)
  · obtain ⟨a, ns, rfl, _⟩ := h
    rfl
  · obtain ⟨p, ns, rfl, hS, hlen, k⟩ := h
    have hu := hr.units
    refine ⟨_, (pss_cons (ps_asg (pe_cal c__law_size_of (hr.mono (by decide)) rfl (pa_cons (pv 0) pa_nil)) (pg_tup rfl (pgs_cons (pg_name (i := 1) nd rfl (Or.inl rfl)) (pgs_cons (pg_name (i := 2) nd rfl (Or.inl rfl)) pgs_nil))))
        (pss_cons (ps_set (i := 3) nd rfl (Or.inl rfl) (pe_cal c__law_sets (hr.mono (by decide)) rfl (pa_cons (pv 1) (pa_cons (pv 2) pa_nil))))
        (pss_cons (ps_set (i := 4) nd rfl (Or.inl rfl) (pe_cal c__law_family_by (hr.mono (by decide)) rfl (pa_cons (pv 0) (pa_cons pe_int (pa_cons (pv 3) (pa_cons (pe_cal c__law_cell_at (hr.mono (by decide)) rfl (pa_cons (pv 0) (pa_cons pe_int pa_nil))) pa_nil))))))
        (pss_cons (ps_set (i := 5) nd rfl (Or.inl rfl) (pe_cal c__law_cell_at (hr.mono (by decide)) rfl (pa_cons (pv 0) (pa_cons pe_int pa_nil))))
        (pss_cons (ps_set (i := 6) nd rfl (Or.inl rfl) (pe_op op_mod (pe_cal c__law_cell_at (hr.mono (by decide)) rfl (pa_cons (pv 0) (pa_cons pe_int pa_nil))) (pe_op op_add (pe_callB call_len_seq rfl B.len PySem.boot_len (pa_cons (pv 4) pa_nil)) pe_int)))
        (pss_cons (ps_set (i := 7) nd rfl (Or.inl rfl) (pe_op op_cat (pe_op op_cat (pe_slice (r := rSlL K) sl_list (pv 4) po_none (po_some (pv 6))) (pe_lst (pa_cons (pe_cal c__law_bad_set (hr.mono (by decide)) rfl (pa_cons (pv 2) (pa_cons (pe_op op_fdiv (pv 5) pe_int) pa_nil))) pa_nil))) (pe_slice (r := rSlL K) sl_list (pv 4) (po_some (pv 6)) po_none)))
        (pss_via (ps_if (PW.pt (pw_and (pt_cmpR op_eq (pe_op op_mod (pv 5) pe_int) pe_int (nomark _)) (pw_and (pt_cmpR op_gt (pe_callB call_len_seq rfl B.len PySem.boot_len (pa_cons (pv 4) pa_nil)) pe_int (nomark _)) (pw_and1 (pt_cmpR op_lt (pe_callB call_len_seq rfl B.len PySem.boot_len (pa_cons (pv 4) pa_nil)) pe_int (nomark _)))))) (pss_one (ps_set (i := 7) nd rfl (Or.inl rfl) (pe_op op_cat (pe_op op_cat (pe_slice (r := rSlL K) sl_list (pv 4) po_none (po_some (pv 6))) (pe_lst (pa_cons (pe_ix (r := rIxL K) ix_list (pv 4) (pe_op op_mod (pe_op op_fdiv (pv 5) pe_int) (pe_callB call_len_seq rfl B.len PySem.boot_len (pa_cons (pv 4) pa_nil))) (fun _ _ => rfl)) pa_nil))) (pe_slice (r := rSlL K) sl_list (pv 4) (po_some (pv 6)) po_none)))) pss_nil)
        (pss_via (ps_if (PW.pt (pw_and (pt_cmpR op_eq (pe_op op_mod (pv 5) pe_int) pe_int (nomark _)) (pw_and1 (pt_cmpR op_gt (pe_callB call_len_seq rfl B.len PySem.boot_len (pa_cons (pv 4) pa_nil)) pe_int (nomark _))))) (pss_cons (ps_set (i := 8) nd rfl (Or.inl rfl) (pe_op op_sub (pv 2) pe_int))
        (pss_via (ps_if (PW.pt (pw_or (pt_cmpR op_eq (pv 2) pe_int (nomark _)) (pw_or1 (PW.pt (pw_and (pt_cmpR op_lt (pv 2) pe_int (nomark _)) (pw_and1 (pt_cmpR op_eq (pe_op op_mod (pe_op op_fdiv (pv 5) pe_int) pe_int) pe_int (nomark _)))))))) (pss_one (ps_set (i := 8) nd rfl (Or.inl rfl) (pe_op op_add (pv 2) pe_int))) pss_nil)
        (pss_one (ps_set (i := 7) nd rfl (Or.inl rfl) (pe_op op_cat (pe_op op_cat (pe_slice (r := rSlL K) sl_list (pv 4) po_none (po_some (pv 6))) (pe_lst (pa_cons (pe_callTy call_tuple_of rfl B.tuple b_tuple (pa_cons (pe_comp ["thing"] [] ⟨rfl, by decide +kernel, by decide +kernel, of_decide_eq_true (by kernel_rfl), fun j hj => (nomatch hj)⟩ rfl (gown_name (by decide)) (pi_range1 rfl B.range (pa_cons (pv 8) pa_nil)) (fun _ _ _ _ => (pg_name (i := 0) (show (["thing"] : List Str).Nodup from by decide +kernel) rfl (Or.inl rfl) (.inr rfl))) (fun _ _ _ _ => pifs_nil) (fun _ _ _ _ => (pv 0))) pa_nil)) pa_nil))) (pe_slice (r := rSlL K) sl_list (pv 4) (po_some (pv 6)) po_none)))))) pss_nil)
        (pss_via (ps_if (pt_cmpR op_eq (pe_op op_mod (pv 5) pe_int) pe_int (nomark _)) (pss_one (ps_set (i := 7) nd rfl (Or.inl rfl) (pe_slice (r := rSlL K) sl_list (pe_cal c__law_sets (hr.mono (by decide)) rfl (pa_cons pe_int (pa_cons pe_int pa_nil))) po_none (po_some (pe_op op_add pe_int (pe_op op_mod (pe_op op_fdiv (pv 5) pe_int) pe_int)))))) pss_nil)
        (pss_cons (ps_set (i := 9) nd rfl (Or.inl rfl) (pe_callTy call_list_of rfl B.list b_list (pa_cons (pv 7) pa_nil)))
        (pss_cons (ps_set (i := 10) nd rfl (Or.inl rfl) (pe_op op_mod (pe_cal c__law_cell_at (hr.mono (by decide)) rfl (pa_cons (pv 0) (pa_cons pe_int pa_nil))) pe_int))
        (pss_cons (ps_set (i := 11) nd rfl (Or.inl rfl) (pe_op op_mod (pe_op op_add (pe_op op_add (pv 10) pe_int) (pe_op op_mod (pe_op op_fdiv (pe_cal c__law_cell_at (hr.mono (by decide)) rfl (pa_cons (pv 0) (pa_cons pe_int pa_nil))) pe_int) pe_int)) pe_int))
        (pss_cons (ps_for PassesOwn.never rfl (pi_range1 rfl B.range (pa_cons pe_int pa_nil)) (pg_name (i := 12) nd rfl (Or.inl rfl)) (pss_cons (ps_if (PW.pt (pw_or (pt_cmpR (op_neK (K := K) hu) (pe_cal c__law_marks (hr.mono (by decide)) rfl (pa_cons (pv 12) (pa_cons (pv 9) (pa_cons (pv 10) (pa_cons (pv 11) pa_nil))))) (pe_lst (pa_cons pe_bl (pa_cons pe_bl (pa_cons pe_bl (pa_cons pe_bl (pa_cons pe_bl pa_nil)))))) (nomark _)) (pw_or1 (pt_cmpR (op_neK (K := K) hu) (pv 9) (pv 7) (nomark _))))) (pss_one (ps_ret pe_bl)) pss_nil)
        (pss_one (ps_if (pt_cmpR (op_neK (K := K) hu) (pe_cal c__law_marks (hr.mono (by decide)) rfl (pa_cons (pv 12) (pa_cons (pe_callTy call_list_of rfl B.list b_list (pa_cons (pv 4) pa_nil)) (pa_cons (pv 10) (pa_cons (pv 11) pa_nil))))) (pe_lst pa_nil) (nomark _)) (pss_one (ps_ret pe_bl)) pss_nil))))
        (pss_one (ps_ret pe_bl))))))))))))))), ?_⟩
    refine ⟨_, rfl, p, ns, rfl, hS, fun t H1 n z s1 ht0 ht hn1 hn12 hz1 hz6 hzn hpow hsm => ?_⟩
    refine ⟨t, _, rfl, .inl (.inl ht), rfl, _, _, rfl, _, _, rfl, rfl, ?_⟩
    refine ⟨_, rfl, _, rfl, n, z, rfl, by omega, hz1, by omega, hpow, fun S H2 as G s2 hS0 hSl hT hp hs => ?_⟩
    rw [sets_eq hp hs, inOrder_st hz1] at hT
    have hasl : as.length = SH.C n z := by rw [hT.len]; simp
    have hC := C_4096 (k := z) hn12
    have sS2 : SqL K H2 p (ns.map V.int) := (s1.trans s2).seq hS
    refine ⟨_, rfl, _, rfl, _, rfl, p, ns, 1, rfl, sS2, p, S, ns, 5, _, as, rfl, sS2, hSl, by omega, by omega, fun l H3 fs gs s3 hl0 hl hfg hgs hf200 => ?_⟩
    obtain ⟨rest, hpr⟩ : ∃ rest, (fs ++ rest).Perm as := by
      obtain ⟨rest, hr⟩ := hgs.exists_perm_append
      exact ⟨rest, (hfg.append_right rest).trans hr.symm⟩
    obtain ⟨ms, hnd, hb, hml, hfN, hTf⟩ := sub_sets (hT.same s3) hpr
    have g0 : Gd n z (ms.map (stI z)) := gd_st hz1 hnd hb
    have hFl : (ms.map (stI z)).length ≤ 200 := by rw [List.length_map]; omega
    revert g0 hFl hTf
    generalize ms.map (stI z) = F0
    intro hTf g0 hFl
    have hfam := g0.fam hn12 hz1 hz6 hFl
    have hfl := hTf.len
    have sS3 : SqL K H3 p (ns.map V.int) := s3.seq sS2
    refine ⟨_, rfl, p, ns, 2, rfl, sS3, ?_⟩
    refine ⟨_, rfl, p, ns, 3, rfl, sS3, _, rfl, l, _, rfl, .inl (.inl (.inl hl)), _, _, rfl, rfl, _, _, rfl, rfl, (by show (0 : Int) < ((fs.map V.ref).length : Nat) + 1; omega), ?_⟩
    generalize ns.getD 2 0 = c
    obtain ⟨a, ha, hal⟩ : ∃ a : Nat, ns.getD 3 0 % ((((fs.map V.ref).length : Nat) : Int) + 1) = (a : Int) ∧ a ≤ fs.length := by
      obtain ⟨a, h1, h2⟩ := mod_nat (ns.getD 3 0) (fs.length + 1) (by omega)
      exact ⟨a, by rw [List.length_map]; exact h1, by omega⟩
    show gName 6 (V.int (ns.getD 3 0 % ((((fs.map V.ref).length : Nat) : Int) + 1))) _ _ _
    rw [ha]
    clear ha
    refine ⟨_, rfl, _, rfl, _, rfl, l, _, rfl, .inl (.inl hl), fun l1 hl1 => ?_⟩
    rw [cut_to]
    refine ⟨_, rfl, _, rfl, _, _, rfl, rfl, ⟨by omega, by omega⟩, z, _, rfl, hz1, hz6, fun t2 H4 ys s4 gt ybad => ?_⟩
    refine ⟨(by show 1 ≤ sizeLine; decide), fun l2 hl2 => ?_⟩
    have n12 : l1 ≠ l2 := fun q => by rw [← q, s4 _ _ upd_same] at hl2; cases hl2
    have gl1 : (upd H4 l2 (.lst [.ref t2])) l1 = some (.lst ((fs.take a).map V.ref)) := by rw [upd_ne n12]; exact s4 _ _ upd_same
    have gl2 : (upd H4 l2 (.lst [.ref t2])) l2 = some (.lst [.ref t2]) := upd_same
    have sB : Same H3 (upd H4 l2 (.lst [.ref t2])) := ((upd_fresh hl1).trans s4).trans (upd_fresh hl2)
    have gt2 := upd_fresh hl2 (o := .lst [.ref t2]) _ _ gt
    revert gl1 gl2 sB gt2
    generalize upd H4 l2 (.lst [.ref t2]) = Hb
    intro gl1 gl2 sB gt2
    clear s4 gt hl2 hl1
    have gl9 : Hb l = some (.lst (fs.map V.ref)) := sB _ _ hl
    refine ⟨l1, l2, _, _, rfl, rfl, gl1, gl2, len1 hf200 a t2, fun l3 hl3 => ?_⟩
    refine ⟨_, rfl, _, rfl, _, rfl, l, _, rfl, .inl (.inl (upd_fresh hl3 _ _ gl9)), fun l4 hl4 => ?_⟩
    rw [cut_from fs hal]
    have n34 : l3 ≠ l4 := fun q => by rw [← q, upd_same] at hl4; cases hl4
    refine ⟨l3, l4, _, _, rfl, rfl, (by rw [upd_ne n34, upd_same]), upd_same, len2 hf200 a t2, fun l5 hl5 => ?_⟩
    have sC := (upd_fresh hl3 (o := .lst ((fs.take a).map V.ref ++ [.ref t2]))).trans ((upd_fresh hl4 (o := .lst ((fs.drop a).map V.ref))).trans (upd_fresh hl5 (o := .lst ((fs.take a).map V.ref ++ [.ref t2] ++ (fs.drop a).map V.ref))))
    have hG := fun v8 => gd4_mk (p := p) (S := S) (l := l) (n := n) (z := z) (c := c) (v8 := v8) sB sC upd_same hTf gt2 (no_bad (in_mid F0 ys a) ybad) hf200

    refine ⟨Gd4 p S l n z a c H3, ?_, ?_⟩
    · have hG := hG none
      have hlE := (sB.trans sC) _ _ hl
      revert hG hlE
      generalize upd _ l5 _ = He
      intro hG hlE
      refine ⟨_, rfl, _, _, rfl, rfl, (by show (0 : Int) < 4; decide), rfl, _, rfl, ite2 (fun h1 => ?_) (fun _ => iteF hG)⟩
      refine ⟨_, rfl, l, _, rfl, .inl (.inl (.inl hlE)), _, _, rfl, rfl, _, rfl, ite2 (fun h2 => ?_) (fun _ => iteF hG)⟩
      refine ⟨_, rfl, l, _, rfl, .inl (.inl (.inl hlE)), _, _, rfl, rfl, _, rfl, ite2 (fun h3 => ?_) (fun _ => hG)⟩
      have hf0 : 0 < fs.length := by
        have : decide ((0 : Int) < ((fs.map V.ref).length : Nat)) = true := h2
        have := of_decide_eq_true this
        rw [List.length_map] at this; omega
      obtain ⟨q, hq, hql⟩ := mod_nat (c / 4) fs.length hf0
      have hqF : q < F0.length := by omega
      refine ⟨_, rfl, _, rfl, _, rfl, l, _, rfl, .inl (.inl hlE), fun l1 hl1 => ?_⟩
      rw [cut_to]
      have hlF := upd_fresh hl1 (o := .lst ((fs.take a).map V.ref)) _ _ hlE
      have hat : atI (fs.map V.ref) (c / 4 % (((fs.map V.ref).length : Nat) : Int)) = some (.ref fs[q]) := by
        rw [List.length_map, hq]
        exact at_of (by rw [List.getElem?_map, List.getElem?_eq_getElem hql]; rfl)
      refine ⟨_, rfl, _, rfl, _, _, rfl, rfl, ⟨by omega, by omega⟩, _, rfl, l, _, rfl, .inl (.inl (.inl hlF)), _, _, rfl, rfl, (by rw [List.length_map]; show (0 : Int) < (fs.length : Nat); omega), l, _, _, _, rfl, rfl, .inl (.inl hlF), hat, ?_⟩
      refine ⟨(by show 1 ≤ sizeLine; decide), fun l2 hl2 => ?_⟩
      obtain ⟨bl0, bs0, G0, v80, _, sE, _⟩ := hG
      obtain ⟨ys, hy1, hy2⟩ := hTf.at (List.getElem?_eq_getElem hql)
      obtain ⟨_, hy3⟩ := List.getElem?_eq_some_iff.mp hy1
      have hym : ys ∈ F0 := hy3 ▸ List.getElem_mem hqF
      generalize fs[q] = t2 at hy2 hl2 ⊢
      have n12 : l1 ≠ l2 := fun q => by rw [← q, upd_same] at hl2; cases hl2
      have gl1 : (upd (upd He l1 (.lst ((fs.take a).map V.ref))) l2 (.lst [.ref t2])) l1 = some (.lst ((fs.take a).map V.ref)) := by rw [upd_ne n12, upd_same]
      have gl2 : (upd (upd He l1 (.lst ((fs.take a).map V.ref))) l2 (.lst [.ref t2])) l2 = some (.lst [.ref t2]) := upd_same
      have sB : Same H3 (upd (upd He l1 (.lst ((fs.take a).map V.ref))) l2 (.lst [.ref t2])) := (sE.trans (upd_fresh hl1)).trans (upd_fresh hl2)
      have gt2 := sB _ _ hy2
      revert gl1 gl2 sB gt2
      generalize upd (upd He l1 (.lst ((fs.take a).map V.ref))) l2 (.lst [.ref t2]) = Hb
      intro gl1 gl2 sB gt2
      have gl9 : Hb l = some (.lst (fs.map V.ref)) := sB _ _ hl
      refine ⟨l1, l2, _, _, rfl, rfl, gl1, gl2, len1 hf200 a t2, fun l3 hl3 => ?_⟩
      refine ⟨_, rfl, _, rfl, _, rfl, l, _, rfl, .inl (.inl (upd_fresh hl3 _ _ gl9)), fun l4 hl4 => ?_⟩
      rw [cut_from fs hal]
      have n34 : l3 ≠ l4 := fun q => by rw [← q, upd_same] at hl4; cases hl4
      refine ⟨l3, l4, _, _, rfl, rfl, (by rw [upd_ne n34, upd_same]), upd_same, len2 hf200 a t2, fun l5 hl5 => ?_⟩
      have sC := (upd_fresh hl3 (o := .lst ((fs.take a).map V.ref ++ [.ref t2]))).trans ((upd_fresh hl4 (o := .lst ((fs.drop a).map V.ref))).trans (upd_fresh hl5 (o := .lst ((fs.take a).map V.ref ++ [.ref t2] ++ (fs.drop a).map V.ref))))
      have hG := fun v8 => gd4_mk (p := p) (S := S) (l := l) (n := n) (z := z) (c := c) (v8 := v8) sB sC upd_same hTf gt2 (no_twice a hym) hf200

      exact hG _
    clear hG sC n34 hl5 l5 hl4 l4 hl3 l3 gl9 gt2 sB gl2 gl1 Hb
    rintro σ He ⟨bl0, bs0, G0, v80, rfl, sE, hbl0, hTb0, hG0, hbs0⟩
    have hlE := sE _ _ hl
    have hG : Gd4 p S l n z a c H3 [some (.ref p), some (.int (n : Int)), some (.int (z : Int)), some (.ref S), some (.ref l), some (.int c), some (.int (a : Int)), some (.ref bl0), v80, none, none, none, none] He := ⟨bl0, bs0, G0, v80, rfl, sE, hbl0, hTb0, hG0, hbs0⟩
    refine ⟨Gd4 p S l n z a c H3, ?_, ?_⟩
    · refine ⟨_, rfl, _, _, rfl, rfl, (by show (0 : Int) < 4; decide), rfl, _, rfl, ite2 (fun h1 => ?_) (fun _ => iteF hG)⟩
      refine ⟨_, rfl, l, _, rfl, .inl (.inl (.inl hlE)), _, _, rfl, rfl, _, rfl, ite2 (fun h2 => ?_) (fun _ => hG)⟩
      have hf0 : 0 < fs.length := by
        have : decide ((0 : Int) < ((fs.map V.ref).length : Nat)) = true := h2
        have := of_decide_eq_true this
        rw [List.length_map] at this; omega
      have hF0 : 0 < F0.length := by omega
      refine ⟨_, rfl, _, _, rfl, rfl, ?_⟩
      refine ⟨fun σ H9 => ∃ o : Nat, σ = [some (.ref p), some (.int (n : Int)), some (.int (z : Int)), some (.ref S), some (.ref l), some (.int c), some (.int (a : Int)), some (.ref bl0), some (.int (o : Int)), none, none, none, none] ∧ H9 = He ∧ o ≠ z ∧ o ≤ 7, ?_, ?_⟩
      · have eS : V.int ((z : Int) - 1) = V.int ((z - 1 : Nat) : Int) := by congr 1; omega
        refine ⟨_, rfl, rfl, _, rfl, ite2 (fun h3 => iteT ?_) (fun h3 => ?_)⟩
        · refine ⟨_, rfl, _, _, rfl, rfl, ?_⟩
          exact ⟨z + 1, rfl, rfl, by omega, by omega⟩
        · have hz2 : z ≠ 1 := fun q => h3 (decide_eq_true (by rw [q]; rfl))
          refine ⟨_, rfl, _, _, rfl, rfl, _, rfl, ite2 (fun h4 => ?_) (fun h4 => iteF ?_)⟩
          · refine ⟨_, rfl, _, _, rfl, rfl, ⟨by omega, by omega⟩, _, _, rfl, rfl, (by show (0 : Int) < 2; decide), rfl, _, rfl, ite2 (fun h5 => ?_) (fun h5 => ?_)⟩
            · refine ⟨_, rfl, _, _, rfl, rfl, ?_⟩
              exact ⟨z + 1, rfl, rfl, by omega, by omega⟩
            · refine ⟨z - 1, ?_, rfl, by omega, by omega⟩
              rw [← eS]; rfl
          · refine ⟨z - 1, ?_, rfl, by omega, by omega⟩
            rw [← eS]; rfl
      rintro σ H9 ⟨o, rfl, rfl, hoz, ho7⟩
      refine ⟨_, rfl, _, rfl, _, rfl, l, _, rfl, .inl (.inl hlE), fun l1 hl1 => ?_⟩
      rw [cut_to]
      have sL := upd_fresh hl1 (o := .lst ((fs.take a).map V.ref))
      have gL : (upd H9 l1 (.lst ((fs.take a).map V.ref))) l1 = some (.lst ((fs.take a).map V.ref)) := upd_same
      revert sL gL
      generalize upd H9 l1 (.lst ((fs.take a).map V.ref)) = HL
      intro sL gL
      refine ⟨_, rfl, (o : Int), rfl, by omega, by omega, fun D hD => ?_⟩
      refine comps_by o (fun i Hi => Same HL Hi ∧ Hi D = some (.lst ((rgI i).map V.int))) ⟨upd_fresh hD, upd_same⟩ ?_ ?_
      · rintro Hi ⟨sD, gD⟩
        refine ⟨by show ((o : Int)).toNat ≤ o; omega, D, _, rfl, .inl ⟨.inl (.inl gD), fun t2 ht2 => ?_⟩⟩
        refine ⟨(by show 1 ≤ sizeLine; decide), fun l2 hl2 => ?_⟩
        have sT := upd_fresh ht2 (o := .tup ((rgI o).map V.int))
        have n12 : l1 ≠ l2 := fun q => by rw [← q, sT _ _ (sD _ _ gL)] at hl2; cases hl2
        have gl1 : (upd (upd Hi t2 (.tup ((rgI o).map V.int))) l2 (.lst [.ref t2])) l1 = some (.lst ((fs.take a).map V.ref)) := by rw [upd_ne n12]; exact sT _ _ (sD _ _ gL)
        have gl2 : (upd (upd Hi t2 (.tup ((rgI o).map V.int))) l2 (.lst [.ref t2])) l2 = some (.lst [.ref t2]) := upd_same
        have sB : Same H3 (upd (upd Hi t2 (.tup ((rgI o).map V.int))) l2 (.lst [.ref t2])) := (((sE.trans sL).trans sD).trans sT).trans (upd_fresh hl2)
        have gt2 : (upd (upd Hi t2 (.tup ((rgI o).map V.int))) l2 (.lst [.ref t2])) t2 = some (.tup ((rgI o).map V.int)) := upd_fresh hl2 _ _ upd_same
        revert gl1 gl2 sB gt2
        generalize upd (upd Hi t2 (.tup ((rgI o).map V.int))) l2 (.lst [.ref t2]) = Hb
        intro gl1 gl2 sB gt2
        have hno : isFam ((F0.take a ++ [rgI o]) ++ F0.drop a) = false := no_len (in_side _ a (List.getElem_mem hF0)) (in_mid F0 (rgI o) a) (by rw [g0.len _ (List.getElem_mem hF0), rgI_len]; omega)
        have gl9 : Hb l = some (.lst (fs.map V.ref)) := sB _ _ hl
        refine ⟨l1, l2, _, _, rfl, rfl, gl1, gl2, len1 hf200 a t2, fun l3 hl3 => ?_⟩
        refine ⟨_, rfl, _, rfl, _, rfl, l, _, rfl, .inl (.inl (upd_fresh hl3 _ _ gl9)), fun l4 hl4 => ?_⟩
        rw [cut_from fs hal]
        have n34 : l3 ≠ l4 := fun q => by rw [← q, upd_same] at hl4; cases hl4
        refine ⟨l3, l4, _, _, rfl, rfl, (by rw [upd_ne n34, upd_same]), upd_same, len2 hf200 a t2, fun l5 hl5 => ?_⟩
        have sC := (upd_fresh hl3 (o := .lst ((fs.take a).map V.ref ++ [.ref t2]))).trans ((upd_fresh hl4 (o := .lst ((fs.drop a).map V.ref))).trans (upd_fresh hl5 (o := .lst ((fs.take a).map V.ref ++ [.ref t2] ++ (fs.drop a).map V.ref))))
        have hG := fun v8 => gd4_mk (p := p) (S := S) (l := l) (n := n) (z := z) (c := c) (v8 := v8) sB sC upd_same hTf gt2 (hno) hf200

        exact hG _
      · rintro i Hi hi ⟨sD, gD⟩
        refine ⟨by show i < ((o : Int)).toNat; omega, ?_⟩
        rintro x H' ⟨rfl, rfl⟩
        unfold gName
        refine yes_go ?_
        refine ⟨_, rfl, _, gD, ?_, _, by omega, rfl, hi, ?_, ?_⟩
        · rw [List.length_map, rgI_len]; exact small1000 (by omega)
        · exact fun b o e => by rw [upd_ne (ne_of_none e hD)]; exact sD b o e
        · rw [upd_same]
          unfold rgI
          rw [List.range_succ, List.map_append, List.map_append]
          simp
    clear hG hbs0 hG0 hTb0 hbl0 hlE sE
    rintro σ He ⟨bl0, bs0, G0, v80, rfl, sE, hbl0, hTb0, hG0, hbs0⟩
    refine ⟨Gd4 p S l n z a c H3, ?_, ?_⟩
    · refine ⟨_, rfl, _, _, rfl, rfl, (by show (0 : Int) < 8; decide), rfl, _, rfl, ite2 (fun h1 => ?_) (fun _ => ⟨bl0, bs0, G0, v80, rfl, sE, hbl0, hTb0, hG0, hbs0⟩)⟩
      refine ⟨12, 4, rfl, by decide, by decide, by decide, by decide, fun S2 H6 as2 G2 s6 hS20 hS2l hT2 hp2 hs2 => ?_⟩
      rw [sets_eq hp2 hs2, inOrder_st (by decide)] at hT2
      have h495 : SH.C 12 4 = 495 := by decide +kernel
      have has2 : as2.length = 495 := by rw [hT2.len, List.length_map, List.length_range, h495]
      obtain ⟨q, hq, hq9⟩ := mod_nat (c / 8) 9 (by decide)
      have e201 : (201 : Int) + c / 8 % 9 = ((201 + q : Nat) : Int) := by have : c / 8 % 9 = (q : Int) := hq; omega
      refine ⟨_, rfl, _, _, rfl, rfl, ⟨by omega, by omega⟩, _, _, rfl, rfl, (by show (0 : Int) < 9; decide), _, _, rfl, rfl, ((201 + q : Nat) : Int), (by rw [← e201]), S2, _, rfl, .inl (.inl hS2l), fun l7 hl7 => ?_⟩
      rw [cut_to]
      refine ⟨l7, as2.take (201 + q), _, _, rfl, (sE.trans s6).trans (upd_fresh hl7), upd_same, ((hT2.same (upd_fresh hl7)).take_ (201 + q)).1, no_many ?_, ?_⟩
      · rw [List.length_take, List.length_map, List.length_range, h495]; omega
      · rw [List.length_take]; omega
    clear hbs0 hG0 hTb0 hbl0 sE
    rintro σ H9 ⟨bl, bs, Gb, v8, rfl, s9, hbl, hTb, hGb, hbs⟩
    refine ⟨_, rfl, bl, _, rfl, .inl (.inl (.inl hbl)), fun hd hhd => ?_⟩
    have sh := upd_fresh hhd (o := .lst (bs.map V.ref))
    have sS9 := (s9.trans sh).seq sS3
    refine ⟨_, rfl, p, ns, 4, rfl, sS9, _, _, rfl, rfl, (by show (0 : Int) < 12; decide), ?_⟩
    refine ⟨_, rfl, _, _, rfl, rfl, _, rfl, p, ns, 4, rfl, sS9, _, _, rfl, rfl, ⟨by omega, by omega⟩, _, _, rfl, rfl, (by show (0 : Int) < 11; decide), _, _, rfl, rfl, _, _, rfl, rfl, (by show (0 : Int) < 12; decide), ?_⟩
    have hl1 := (s9.trans sh) _ _ hl
    have hTf1 := hTf.same (s9.trans sh)
    have hbl1 := sh _ _ hbl
    have hTb1 := hTb.same sh
    have hhd1 : (upd H9 hd (.lst (bs.map V.ref))) hd = some (.lst (bs.map V.ref)) := upd_same
    revert hl1 hTf1 hbl1 hTb1 hhd1
    generalize upd H9 hd (.lst (bs.map V.ref)) = Hx
    intro hl1 hTf1 hbl1 hTb1 hhd1
    have hdp : 0 < dep (.l (Gb.map dI)) ∧ dep (.l (Gb.map dI)) ≤ 60 := by
      rw [dep]; have := deps_t Gb; omega
    have hdq : deq (.l (Gb.map dI)) (.l (Gb.map dI)) = true := by rw [deq, deqs_t]; simp
    refine ⟨4, rfl, by decide, by decide, ?_⟩
    refine for_range (fun i σ H2 => ∃ v : Option V, σ = [some (.ref p), some (.int (n : Int)), some (.int (z : Int)), some (.ref S), some (.ref l), some (.int c), some (.int (a : Int)), some (.ref bl), v8, some (.ref hd), some (.int (ns.getD 4 0 % 12)), some (.int ((ns.getD 4 0 % 12 + 1 + ns.getD 4 0 / 12 % 11) % 12)), v] ∧ Same Hx H2) ⟨none, rfl, fun _ _ e => e⟩ ?_ ?_
    · rintro i σ H2 hi ⟨v, rfl, sx⟩
      refine ⟨_, rfl, _, rfl, _, rfl, _, rfl, _, _, _, hd, bs, Gb, rfl, sx _ _ hhd1, hTb1.same sx, by omega, .inl ⟨hGb, fun lm Hm sm hlm => ?_⟩⟩
      refine ⟨(by show 5 ≤ sizeLine; decide), fun l3 hl3 => ?_⟩
      have sm3 := (sx.trans sm).trans (upd_fresh hl3 (o := .lst [.bl false, .bl false, .bl true, .bl false, .bl false]))
      refine ⟨.l [.b false, .b false, .b true, .b false, .b false], .l [.b false, .b false, .b true, .b false, .b false], ⟨lm, _, rfl, .inl (.inl (upd_fresh hl3 _ _ hlm)), ⟨rfl, rfl, rfl, rfl, rfl, trivial⟩⟩, ⟨l3, _, rfl, .inl (.inl upd_same), ⟨rfl, rfl, rfl, rfl, rfl, trivial⟩⟩, ⟨trivial, trivial, trivial, trivial, trivial, trivial⟩, by decide, by decide, _, rfl, ?_⟩
      refine (iteF ?_ : if false = true then _ else _)
      revert sm3
      generalize upd Hm l3 (.lst [.bl false, .bl false, .bl true, .bl false, .bl false]) = Hy
      intro sy
      refine ⟨_, rfl, _, rfl, .l (Gb.map dI), .l (Gb.map dI), ⟨hd, _, rfl, .inl (.inl (sy _ _ hhd1)), (hTb1.same sy).atDs⟩, ⟨bl, _, rfl, .inl (.inl (sy _ _ hbl1)), (hTb1.same sy).atDs⟩, likes_t _ _, hdp.1, hdp.2, _, rfl, ?_⟩
      show if (!deq (.l (Gb.map dI)) (.l (Gb.map dI))) = true then _ else _
      rw [hdq]
      refine iteF (A := _) ?_
      refine ⟨_, rfl, _, rfl, l, _, rfl, .inl (.inl (.inl (sy _ _ hl1))), fun lc hlc => ?_⟩
      have sc := sy.trans (upd_fresh hlc (o := .lst (fs.map V.ref)))
      refine ⟨_, rfl, _, rfl, _, _, _, lc, fs, F0, rfl, upd_same, hTf1.same sc, by omega, .inr ⟨hfam, fun lm2 Hn sn hlm2 => ?_⟩⟩
      refine ⟨Nat.zero_le _, fun l4 hl4 => ?_⟩
      refine ⟨.l [], .l [], ⟨lm2, _, rfl, .inl (.inl (upd_fresh hl4 _ _ hlm2)), trivial⟩, ⟨l4, _, rfl, .inl (.inl upd_same), trivial⟩, trivial, by decide, by decide, _, rfl, ?_⟩
      refine (iteF ?_ : if false = true then _ else _)
      exact ⟨_, rfl, (sc.trans sn).trans (upd_fresh hl4)⟩
    · rintro σ H2 ⟨v, rfl, sx⟩
      exact k _
end
end K04

namespace K04
open PySem L2 Exc
theorem all_mk {l : PySem.W.OpenLaw} {w : World} {K : PySem.W.Frag} {h : Heap} {mg : Str → Option Value} {fa f0 f1 f2 f3 f4 f5 f6 f7 f8 f9 f10 f11 f12 f13 f14 f15 f16 f17 f18 f19 f20 aHeapError aBadSet aNoSuch aBadFamily aNoText aN : Addr} (X : K.In h) (G : h.Ns mainGlobals mg) (hfa : mg "law" = some (.ref fa))
    {od0 an0 od1 an1 od2 an2 od3 an3 od4 an4 od5 an5 od6 an6 od7 an7 od8 an8 od9 an9 od10 an10 od11 an11 od12 an12 od13 an13 od14 an14 od15 an15 od16 an16 od17 an17 od18 an18 od19 an19 od20 an20 : Option Addr} {sl0 sl1 sl2 sl3 sl4 sl5 sl6 sl7 sl8 sl9 sl10 sl11 sl12 sl13 sl14 sl15 sl16 sl17 sl18 sl19 sl20 : Array (Option Value)} {oc0 kV0 dc0 pm0 cd0 ct0 oc1 kV1 dc1 pm1 cd1 ct1 oc2 kV2 dc2 pm2 cd2 ct2 oc3 kV3 dc3 pm3 cd3 ct3 oc4 kV4 dc4 pm4 cd4 ct4 oc5 kV5 dc5 pm5 cd5 ct5 oc6 kV6 dc6 pm6 cd6 ct6 oc7 kV7 dc7 pm7 cd7 ct7 oc8 kV8 dc8 pm8 cd8 ct8 oc9 kV9 dc9 pm9 cd9 ct9 oc10 kV10 dc10 pm10 cd10 ct10 oc11 kV11 dc11 pm11 cd11 ct11 oc12 kV12 dc12 pm12 cd12 ct12 oc13 kV13 dc13 pm13 cd13 ct13 oc14 kV14 dc14 pm14 cd14 ct14 oc15 kV15 dc15 pm15 cd15 ct15 oc16 kV16 dc16 pm16 cd16 ct16 oc17 kV17 dc17 pm17 cd17 ct17 oc18 kV18 dc18 pm18 cd18 ct18 oc19 kV19 dc19 pm19 cd19 ct19 oc20 kV20 dc20 pm20 cd20 ct20 : Value} {tk0 tk1 tk2 : Tok}
    {nm q : Str} {bs : List Value} {hdct : Bool} {sn : List Str} {sub : List Value} {ab : Bool} {col : Option Bool} {dd : Option Addr} {k0 k1 k2 k3 k5 : Option Value} {v2 v3 v4 : Value} {d2 d3 d4 : Option Addr} {es2 es4 : Array DictEntry} {ep2 ep4 : Nat} {x2 x3 x4 : Array (Option Value)} {KHeapError KBadSet KNoSuch KBadFamily KNoText : ClassData}
    (a0 : PySem.W.nsIn K mainGlobals "rises_below" = some (some (.ref f0))) (l0 : K.lookup f0 = some ⟨oc0, od0, .func (PySem.W.fnOf "rises_below" "rises_below" (defArgs (top 7)) (defBody (top 7)) (defScope (top 7)) .none kV0 dc0 pm0 an0 cd0 ct0), sl0⟩) (c0 : PySem.W.codeIn K cd0 "rises_below" = true) (k_0 : PySem.W.keepIn K (.ref f0) = true)
    (a1 : PySem.W.nsIn K mainGlobals "is_family" = some (some (.ref f1))) (l1 : K.lookup f1 = some ⟨oc1, od1, .func (PySem.W.fnOf "is_family" "is_family" (defArgs (top 12)) (defBody (top 12)) (defScope (top 12)) .none kV1 dc1 pm1 an1 cd1 ct1), sl1⟩) (c1 : PySem.W.codeIn K cd1 "is_family" = true) (k_1 : PySem.W.keepIn K (.ref f1) = true)
    (a2 : PySem.W.nsIn K mainGlobals "check_family" = some (some (.ref f2))) (l2 : K.lookup f2 = some ⟨oc2, od2, .func (PySem.W.fnOf "check_family" "check_family" (defArgs (top 13)) (defBody (top 13)) (defScope (top 13)) .none kV2 dc2 pm2 an2 cd2 ct2), sl2⟩) (c2 : PySem.W.codeIn K cd2 "check_family" = true) (k_2 : PySem.W.keepIn K (.ref f2) = true)
    (a3 : PySem.W.nsIn K mainGlobals "from_the_greatest" = some (some (.ref f3))) (l3 : K.lookup f3 = some ⟨oc3, od3, .func (PySem.W.fnOf "from_the_greatest" "from_the_greatest" (defArgs (top 14)) (defBody (top 14)) (defScope (top 14)) .none kV3 dc3 pm3 an3 cd3 ct3), sl3⟩) (c3 : PySem.W.codeIn K cd3 "from_the_greatest" = true) (k_3 : PySem.W.keepIn K (.ref f3) = true)
    (a4 : PySem.W.nsIn K mainGlobals "in_order" = some (some (.ref f4))) (l4 : K.lookup f4 = some ⟨oc4, od4, .func (PySem.W.fnOf "in_order" "in_order" (defArgs (top 15)) (defBody (top 15)) (defScope (top 15)) .none kV4 dc4 pm4 an4 cd4 ct4), sl4⟩) (c4 : PySem.W.codeIn K cd4 "in_order" = true) (k_4 : PySem.W.keepIn K (.ref f4) = true)
    (a5 : PySem.W.nsIn K mainGlobals "shadow" = some (some (.ref f5))) (l5 : K.lookup f5 = some ⟨oc5, od5, .func (PySem.W.fnOf "shadow" "shadow" (defArgs (top 16)) (defBody (top 16)) (defScope (top 16)) .none kV5 dc5 pm5 an5 cd5 ct5), sl5⟩) (c5 : PySem.W.codeIn K cd5 "shadow" = true) (k_5 : PySem.W.keepIn K (.ref f5) = true)
    (a6 : PySem.W.nsIn K mainGlobals "pushed_set" = some (some (.ref f6))) (l6 : K.lookup f6 = some ⟨oc6, od6, .func (PySem.W.fnOf "pushed_set" "pushed_set" (defArgs (top 17)) (defBody (top 17)) (defScope (top 17)) .none kV6 dc6 pm6 an6 cd6 ct6), sl6⟩) (c6 : PySem.W.codeIn K cd6 "pushed_set" = true) (k_6 : PySem.W.keepIn K (.ref f6) = true)
    (a7 : PySem.W.nsIn K mainGlobals "pushed" = some (some (.ref f7))) (l7 : K.lookup f7 = some ⟨oc7, od7, .func (PySem.W.fnOf "pushed" "pushed" (defArgs (top 18)) (defBody (top 18)) (defScope (top 18)) .none kV7 dc7 pm7 an7 cd7 ct7), sl7⟩) (c7 : PySem.W.codeIn K cd7 "pushed" = true) (k_7 : PySem.W.keepIn K (.ref f7) = true)
    (a8 : PySem.W.nsIn K mainGlobals "meet" = some (some (.ref f8))) (l8 : K.lookup f8 = some ⟨oc8, od8, .func (PySem.W.fnOf "meet" "meet" (defArgs (top 19)) (defBody (top 19)) (defScope (top 19)) .none kV8 dc8 pm8 an8 cd8 ct8), sl8⟩) (c8 : PySem.W.codeIn K cd8 "meet" = true) (k_8 : PySem.W.keepIn K (.ref f8) = true)
    (a9 : PySem.W.nsIn K mainGlobals "apart" = some (some (.ref f9))) (l9 : K.lookup f9 = some ⟨oc9, od9, .func (PySem.W.fnOf "apart" "apart" (defArgs (top 20)) (defBody (top 20)) (defScope (top 20)) .none kV9 dc9 pm9 an9 cd9 ct9), sl9⟩) (c9 : PySem.W.codeIn K cd9 "apart" = true) (k_9 : PySem.W.keepIn K (.ref f9) = true)
    (a10 : PySem.W.nsIn K mainGlobals "written_set" = some (some (.ref f10))) (l10 : K.lookup f10 = some ⟨oc10, od10, .func (PySem.W.fnOf "written_set" "written_set" (defArgs (top 22)) (defBody (top 22)) (defScope (top 22)) .none kV10 dc10 pm10 an10 cd10 ct10), sl10⟩) (c10 : PySem.W.codeIn K cd10 "written_set" = true) (k_10 : PySem.W.keepIn K (.ref f10) = true)
    (a11 : PySem.W.nsIn K mainGlobals "shown" = some (some (.ref f11))) (l11 : K.lookup f11 = some ⟨oc11, od11, .func (PySem.W.fnOf "shown" "shown" (defArgs (top 23)) (defBody (top 23)) (defScope (top 23)) .none kV11 dc11 pm11 an11 cd11 ct11), sl11⟩) (c11 : PySem.W.codeIn K cd11 "shown" = true) (k_11 : PySem.W.keepIn K (.ref f11) = true)
    (a12 : PySem.W.nsIn K mainGlobals "_law_cell_at" = some (some (.ref f12))) (l12 : K.lookup f12 = some ⟨oc12, od12, .func (PySem.W.fnOf "_law_cell_at" "_law_cell_at" (defArgs (top 25)) (defBody (top 25)) (defScope (top 25)) .none kV12 dc12 pm12 an12 cd12 ct12), sl12⟩) (c12 : PySem.W.codeIn K cd12 "_law_cell_at" = true) (k_12 : PySem.W.keepIn K (.ref f12) = true)
    (a13 : PySem.W.nsIn K mainGlobals "_law_sets" = some (some (.ref f13))) (l13 : K.lookup f13 = some ⟨oc13, od13, .func (PySem.W.fnOf "_law_sets" "_law_sets" (defArgs (top 26)) (defBody (top 26)) (defScope (top 26)) .none kV13 dc13 pm13 an13 cd13 ct13), sl13⟩) (c13 : PySem.W.codeIn K cd13 "_law_sets" = true) (k_13 : PySem.W.keepIn K (.ref f13) = true)
    (a14 : PySem.W.nsIn K mainGlobals "_law_family_by" = some (some (.ref f14))) (l14 : K.lookup f14 = some ⟨oc14, od14, .func (PySem.W.fnOf "_law_family_by" "_law_family_by" (defArgs (top 27)) (defBody (top 27)) (defScope (top 27)) .none kV14 dc14 pm14 an14 cd14 ct14), sl14⟩) (c14 : PySem.W.codeIn K cd14 "_law_family_by" = true) (k_14 : PySem.W.keepIn K (.ref f14) = true)
    (a15 : PySem.W.nsIn K mainGlobals "_law_size_of" = some (some (.ref f15))) (l15 : K.lookup f15 = some ⟨oc15, od15, .func (PySem.W.fnOf "_law_size_of" "_law_size_of" (defArgs (top 28)) (defBody (top 28)) (defScope (top 28)) .none kV15 dc15 pm15 an15 cd15 ct15), sl15⟩) (c15 : PySem.W.codeIn K cd15 "_law_size_of" = true) (k_15 : PySem.W.keepIn K (.ref f15) = true)
    (a16 : PySem.W.nsIn K mainGlobals "_law_marks_of" = some (some (.ref f16))) (l16 : K.lookup f16 = some ⟨oc16, od16, .func (PySem.W.fnOf "_law_marks_of" "_law_marks_of" (defArgs (top 29)) (defBody (top 29)) (defScope (top 29)) .none kV16 dc16 pm16 an16 cd16 ct16), sl16⟩) (c16 : PySem.W.codeIn K cd16 "_law_marks_of" = true) (k_16 : PySem.W.keepIn K (.ref f16) = true)
    (a17 : PySem.W.nsIn K mainGlobals "_law_asked" = some (some (.ref f17))) (l17 : K.lookup f17 = some ⟨oc17, od17, .func (PySem.W.fnOf "_law_asked" "_law_asked" (defArgs (top 30)) (defBody (top 30)) (defScope (top 30)) .none kV17 dc17 pm17 an17 cd17 ct17), sl17⟩) (c17 : PySem.W.codeIn K cd17 "_law_asked" = true) (k_17 : PySem.W.keepIn K (.ref f17) = true)
    (a18 : PySem.W.nsIn K mainGlobals "_law_marks" = some (some (.ref f18))) (l18 : K.lookup f18 = some ⟨oc18, od18, .func (PySem.W.fnOf "_law_marks" "_law_marks" (defArgs (top 31)) (defBody (top 31)) (defScope (top 31)) .none kV18 dc18 pm18 an18 cd18 ct18), sl18⟩) (c18 : PySem.W.codeIn K cd18 "_law_marks" = true) (k_18 : PySem.W.keepIn K (.ref f18) = true)
    (a19 : PySem.W.nsIn K mainGlobals "_law_bad_set" = some (some (.ref f19))) (l19 : K.lookup f19 = some ⟨oc19, od19, .func (PySem.W.fnOf "_law_bad_set" "_law_bad_set" (defArgs (top 32)) (defBody (top 32)) (defScope (top 32)) .none kV19 dc19 pm19 an19 cd19 ct19), sl19⟩) (c19 : PySem.W.codeIn K cd19 "_law_bad_set" = true) (k_19 : PySem.W.keepIn K (.ref f19) = true)
    (a20 : PySem.W.nsIn K mainGlobals "law" = some (some (.ref f20))) (l20 : K.lookup f20 = some ⟨oc20, od20, .func (PySem.W.fnOf "law" "law" (defArgs (top 33)) (defBody (top 33)) (defScope (top 33)) .none kV20 dc20 pm20 an20 cd20 ct20), sl20⟩) (c20 : PySem.W.codeIn K cd20 "law" = true) (k_20 : PySem.W.keepIn K (.ref f20) = true)
    (t0 : PySem.W.nsIn K mainGlobals "MOST_SETS" = some (some (.int 200 tk0)))
    (t1 : PySem.W.nsIn K mainGlobals "MOST_THINGS_IN_A_MEMBER" = some (some (.int 6 tk1)))
    (t2 : PySem.W.nsIn K mainGlobals "THINGS_OF_FAMILIES" = some (some (.int 12 tk2)))
    (z0 : PySem.W.nsIn K mainGlobals "len" = some none) (z1 : PySem.W.nsIn K mainGlobals "min" = some none) (z2 : PySem.W.nsIn K mainGlobals "max" = some none) (z3 : PySem.W.nsIn K mainGlobals "sum" = some none) (z4 : PySem.W.nsIn K mainGlobals "sorted" = some none) (z5 : PySem.W.nsIn K mainGlobals "list" = some none) (z6 : PySem.W.nsIn K mainGlobals "tuple" = some none) (z7 : PySem.W.nsIn K mainGlobals "set" = some none) (z8 : PySem.W.nsIn K mainGlobals "reversed" = some none) (z9 : PySem.W.nsIn K mainGlobals "isinstance" = some none) (z10 : PySem.W.nsIn K mainGlobals "int" = some none) (z11 : PySem.W.nsIn K mainGlobals "bool" = some none) (z12 : PySem.W.nsIn K mainGlobals "range" = some none) (z13 : PySem.W.nsIn K mainGlobals "enumerate" = some none) (z14 : PySem.W.nsIn K mainGlobals "ValueError" = some none) (z15 : PySem.W.nsIn K mainGlobals "any" = some none) (z16 : PySem.W.nsIn K mainGlobals "str" = some none) (z17 : PySem.W.nsIn K mainGlobals "dict" = some none)
    (nHeapError : PySem.W.nsIn K mainGlobals "HeapError" = some (some (.ref aHeapError))) (CHeapError : PySem.W.clsIn K aHeapError = some KHeapError) (YHeapError : PySem.W.typeIn K (.ref aHeapError) = some (.type "type"))
    (nBadSet : PySem.W.nsIn K mainGlobals "BadSet" = some (some (.ref aBadSet))) (CBadSet : PySem.W.clsIn K aBadSet = some KBadSet) (YBadSet : PySem.W.typeIn K (.ref aBadSet) = some (.type "type"))
    (nNoSuch : PySem.W.nsIn K mainGlobals "NoSuch" = some (some (.ref aNoSuch))) (CNoSuch : PySem.W.clsIn K aNoSuch = some KNoSuch) (YNoSuch : PySem.W.typeIn K (.ref aNoSuch) = some (.type "type"))
    (nBadFamily : PySem.W.nsIn K mainGlobals "BadFamily" = some (some (.ref aBadFamily))) (CBadFamily : PySem.W.clsIn K aBadFamily = some KBadFamily) (YBadFamily : PySem.W.typeIn K (.ref aBadFamily) = some (.type "type"))
    (nNoText : PySem.W.nsIn K mainGlobals "NoText" = some (some (.ref aNoText))) (CNoText : PySem.W.clsIn K aNoText = some KNoText) (YNoText : PySem.W.typeIn K (.ref aNoText) = some (.type "type"))
    (e1 : K.lookup aBadFamily = some (excClassObj nm q aBadFamily aN bs [.ref aHeapError, .type "ValueError", .type "Exception", .type "BaseException", .type "object"] hdct sn sub ab col dd k0 k1 k2 k3 k5 "ValueError.__new__")) (e2 : K.lookup aN = some ⟨v2, d2, .dict es2 ep2, x2⟩) (e3 : es2.toList.all isStrK = true) (e4 : PySem.W.nsIn K aN "__init__" = some none)
    (e5 : K.lookup aHeapError = some ⟨v3, d3, .cls KHeapError, x3⟩) (e6 : K.lookup KHeapError.ns = some ⟨v4, d4, .dict es4 ep4, x4⟩) (e7 : es4.toList.all isStrK = true) (e8 : PySem.W.nsIn K KHeapError.ns "__init__" = some none)
    (m1 : PySem.W.mroIn K aHeapError (.type "BaseException") = some true) (m2 : PySem.W.mroIn K aBadFamily (.ref aHeapError) = some true) (m3 : PySem.W.mroIn K aBadFamily (.type "object") = some true) (m4 : PySem.W.mroIn K aBadFamily (.type "BaseException") = some true)
    (g1 : PySem.W.findIn K (.ref aBadFamily) "__getattribute__" = some (some (.builtin "BaseException.__getattribute__"))) (g2 : PySem.W.findIn K (.ref aBadFamily) "__getattr__" = some none) (g3 : PySem.W.findIn K (.ref aBadFamily) "__class__" = some (some (.builtin "object.__class__")))
    (g4 : PySem.W.specialIn K (.builtin "object.__class__") "__get__" = some (some (.builtin "getset_descriptor.__get__"))) (g5 : PySem.W.takesIn K (.builtin "object.__class__") = some true)
    (qBadSet : (Value.ref aBadFamily == Value.ref aBadSet) = false) (sBadSet : PySem.W.subIn K (.ref aBadFamily) (.ref aBadSet) = some false)
    (qNoSuch : (Value.ref aBadFamily == Value.ref aNoSuch) = false) (sNoSuch : PySem.W.subIn K (.ref aBadFamily) (.ref aNoSuch) = some false)
    (qNoText : (Value.ref aBadFamily == Value.ref aNoText) = false) (sNoText : PySem.W.subIn K (.ref aBadFamily) (.ref aNoText) = some false)
    (sV : PySem.W.subIn K (.ref aBadFamily) (.type "ValueError") = some true) :
    ∃ fd : FuncData, (∀ (s : Shared) (v : Value), BindsTo s fd ⟨[v], []⟩ [("script", v)]) ∧ ∀ base : Heap, K.In base → base.Ns mainGlobals mg → FnOk l.prog w K mg base CX0 13 fa fd ["script"] (spLaw K) := by
  have e := hfa.symm.trans (PySem.W.mg_of X G a20)
  cases e
  have B : Bt mg := ⟨PySem.W.mg_none_of X G z0, PySem.W.mg_none_of X G z1, PySem.W.mg_none_of X G z2, PySem.W.mg_none_of X G z3, PySem.W.mg_none_of X G z4, PySem.W.mg_none_of X G z5, PySem.W.mg_none_of X G z6, PySem.W.mg_none_of X G z7, PySem.W.mg_none_of X G z8, PySem.W.mg_none_of X G z9, PySem.W.mg_none_of X G z10, PySem.W.mg_none_of X G z11, PySem.W.mg_none_of X G z12, PySem.W.mg_none_of X G z13, PySem.W.mg_none_of X G z14, PySem.W.mg_none_of X G z15, PySem.W.mg_none_of X G z16, PySem.W.mg_none_of X G z17⟩
  have T : Tx mg := ⟨⟨_, PySem.W.mg_of X G t0⟩, ⟨_, PySem.W.mg_of X G t1⟩, ⟨_, PySem.W.mg_of X G t2⟩⟩
  have MHeapError := PySem.W.mg_of X G nHeapError
  have MBadSet := PySem.W.mg_of X G nBadSet
  have MNoSuch := PySem.W.mg_of X G nNoSuch
  have MBadFamily := PySem.W.mg_of X G nBadFamily
  have MNoText := PySem.W.mg_of X G nNoText
  have XBadFamily : XCls K aBadFamily [.type "ValueError", .type "Exception", .type "BaseException", .type "object"] "ValueError.__new__" := xcls_mk e1 e2 e3 e4 e5 e6 e7 e8
  have DHeapError : XD1 K aHeapError := ⟨by rw [CHeapError]; rfl, YHeapError, m1⟩
  have xk : XK1 K aBadFamily := ⟨by rw [CBadFamily]; rfl, g1, g2, g3, g4, g5, m3, m4⟩
  have ktBadSet := kit_ref qBadSet CBadSet YBadSet sBadSet
  have ktNoSuch := kit_ref qNoSuch CNoSuch YNoSuch sNoSuch
  have ktBadFamily := kit_self (K := K) (C := aBadFamily)
  have ktNoText := kit_ref qNoText CNoText YNoText sNoText
  have ktV := kit_ve sV
  have F0 := fun_mk (st := (top 7)) l0 c0 k_0
  have b0 := F0.binds (ps := ["one", "bound"]) fun _ _ _ _ _ _ us hl => match us, hl with | [_, _], _ => rfl
  have F1 := fun_mk (st := (top 12)) l1 c1 k_1
  have b1 := F1.binds (ps := ["family"]) fun _ _ _ _ _ _ us hl => match us, hl with | [_], _ => rfl
  have F2 := fun_mk (st := (top 13)) l2 c2 k_2
  have b2 := F2.binds (ps := ["family"]) fun _ _ _ _ _ _ us hl => match us, hl with | [_], _ => rfl
  have F3 := fun_mk (st := (top 14)) l3 c3 k_3
  have b3 := F3.binds (ps := ["one"]) fun _ _ _ _ _ _ us hl => match us, hl with | [_], _ => rfl
  have F4 := fun_mk (st := (top 15)) l4 c4 k_4
  have b4 := F4.binds (ps := ["members"]) fun _ _ _ _ _ _ us hl => match us, hl with | [_], _ => rfl
  have F5 := fun_mk (st := (top 16)) l5 c5 k_5
  have b5 := F5.binds (ps := ["family"]) fun _ _ _ _ _ _ us hl => match us, hl with | [_], _ => rfl
  have F6 := fun_mk (st := (top 17)) l6 c6 k_6
  have b6 := F6.binds (ps := ["family", "one", "j", "i"]) fun _ _ _ _ _ _ us hl => match us, hl with | [_, _, _, _], _ => rfl
  have F7 := fun_mk (st := (top 18)) l7 c7 k_7
  have b7 := F7.binds (ps := ["family", "j", "i"]) fun _ _ _ _ _ _ us hl => match us, hl with | [_, _, _], _ => rfl
  have F8 := fun_mk (st := (top 19)) l8 c8 k_8
  have b8 := F8.binds (ps := ["one", "other"]) fun _ _ _ _ _ _ us hl => match us, hl with | [_, _], _ => rfl
  have F9 := fun_mk (st := (top 20)) l9 c9 k_9
  have b9 := F9.binds (ps := ["family"]) fun _ _ _ _ _ _ us hl => match us, hl with | [_], _ => rfl
  have F10 := fun_mk (st := (top 22)) l10 c10 k_10
  have b10 := F10.binds (ps := ["one"]) fun _ _ _ _ _ _ us hl => match us, hl with | [_], _ => rfl
  have F11 := fun_mk (st := (top 23)) l11 c11 k_11
  have b11 := F11.binds (ps := ["family"]) fun _ _ _ _ _ _ us hl => match us, hl with | [_], _ => rfl
  have F12 := fun_mk (st := (top 25)) l12 c12 k_12
  have b12 := F12.binds (ps := ["script", "k"]) fun _ _ _ _ _ _ us hl => match us, hl with | [_, _], _ => rfl
  have F13 := fun_mk (st := (top 26)) l13 c13 k_13
  have b13 := F13.binds (ps := ["things", "size"]) fun _ _ _ _ _ _ us hl => match us, hl with | [_, _], _ => rfl
  have F14 := fun_mk (st := (top 27)) l14 c14 k_14
  have b14 := F14.binds (ps := ["script", "start", "sets", "way"]) fun _ _ _ _ _ _ us hl => match us, hl with | [_, _, _, _], _ => rfl
  have F15 := fun_mk (st := (top 28)) l15 c15 k_15
  have b15 := F15.binds (ps := ["script"]) fun _ _ _ _ _ _ us hl => match us, hl with | [_], _ => rfl
  have F16 := fun_mk (st := (top 29)) l16 c16 k_16
  have b16 := F16.binds (ps := ["e"]) fun _ _ _ _ _ _ us hl => match us, hl with | [_], _ => rfl
  have F17 := fun_mk (st := (top 30)) l17 c17 k_17
  have b17 := F17.binds (ps := ["way", "family", "j", "i"]) fun _ _ _ _ _ _ us hl => match us, hl with | [_, _, _, _], _ => rfl
  have F18 := fun_mk (st := (top 31)) l18 c18 k_18
  have b18 := F18.binds (ps := ["way", "family", "j", "i"]) fun _ _ _ _ _ _ us hl => match us, hl with | [_, _, _, _], _ => rfl
  have F19 := fun_mk (st := (top 32)) l19 c19 k_19
  have b19 := F19.binds (ps := ["size", "cell"]) fun _ _ _ _ _ _ us hl => match us, hl with | [_, _], _ => rfl
  have F20 := fun_mk (st := (top 33)) l20 c20 k_20
  refine ⟨PySem.W.fnOf "law" "law" (defArgs (top 33)) (defBody (top 33)) (defScope (top 33)) .none kV20 dc20 pm20 an20 cd20 ct20, fun s v => .of_eq rfl, fun base _ _ => ?_⟩
  have q_rises_below : Cal l.prog w K mg base "rises_below" 1 (spRb K) := ⟨_, _, _, PySem.W.mg_of X G a0, ok_rises_below F0 , k_0, b0⟩
  have q_is_family : Cal l.prog w K mg base "is_family" 3 spIF := ⟨_, _, _, PySem.W.mg_of X G a1, ok_is_family F1 B T q_rises_below, k_1, b1⟩
  have q_check_family : CalX l.prog w K mg base "check_family" 5 (spCk aBadFamily) := ⟨_, _, _, PySem.W.mg_of X G a2, ok_check_family F2 XBadFamily MBadFamily q_is_family, k_2, b2⟩
  have q_from_the_greatest : Cal l.prog w K mg base "from_the_greatest" 1 (spRev K) := ⟨_, _, _, PySem.W.mg_of X G a3, ok_from_the_greatest F3 , k_3, b3⟩
  have q_in_order : Cal l.prog w K mg base "in_order" 3 spIO := ⟨_, _, _, PySem.W.mg_of X G a4, ok_in_order F4 B q_from_the_greatest, k_4, b4⟩
  have q_shadow : CalX l.prog w K mg base "shadow" 7 (spSh aBadFamily) := ⟨_, _, _, PySem.W.mg_of X G a5, ok_shadow F5 B q_check_family q_in_order, k_5, b5⟩
  have q_pushed_set : Cal l.prog w K mg base "pushed_set" 3 spPs := ⟨_, _, _, PySem.W.mg_of X G a6, ok_pushed_set F6 B, k_6, b6⟩
  have q_pushed : CalX l.prog w K mg base "pushed" 7 (spPu aBadFamily) := ⟨_, _, _, PySem.W.mg_of X G a7, ok_pushed F7 B q_check_family q_in_order q_pushed_set, k_7, b7⟩
  have q_meet : Cal l.prog w K mg base "meet" 3 (spMt K) := ⟨_, _, _, PySem.W.mg_of X G a8, ok_meet F8 B, k_8, b8⟩
  have q_apart : CalX l.prog w K mg base "apart" 7 (spAp aBadFamily) := ⟨_, _, _, PySem.W.mg_of X G a9, ok_apart F9 B q_check_family q_meet, k_9, b9⟩
  have q_written_set : Cal l.prog w K mg base "written_set" 2 (spWr K) := ⟨_, _, _, PySem.W.mg_of X G a10, ok_written_set F10 B, k_10, b10⟩
  have q_shown : CalX l.prog w K mg base "shown" 7 (spSn aBadFamily) := ⟨_, _, _, PySem.W.mg_of X G a11, ok_shown F11 B q_check_family q_written_set, k_11, b11⟩
  have q__law_cell_at : Cal l.prog w K mg base "_law_cell_at" 1 (spCell K) := ⟨_, _, _, PySem.W.mg_of X G a12, ok__law_cell_at F12 B, k_12, b12⟩
  have q__law_sets : Cal l.prog w K mg base "_law_sets" 4 spSets := ⟨_, _, _, PySem.W.mg_of X G a13, ok__law_sets F13 B, k_13, b13⟩
  have q__law_family_by : Cal l.prog w K mg base "_law_family_by" 4 (spFam K) := ⟨_, _, _, PySem.W.mg_of X G a14, ok__law_family_by F14 B q__law_cell_at, k_14, b14⟩
  have q__law_size_of : Cal l.prog w K mg base "_law_size_of" 4 (spSz K) := ⟨_, _, _, PySem.W.mg_of X G a15, ok__law_size_of F15 B q__law_cell_at, k_15, b15⟩
  have q__law_marks_of : CalH l.prog w K mg base "_law_marks_of" 1 (spMk K aBadSet aNoSuch aBadFamily aNoText) := ⟨_, _, _, PySem.W.mg_of X G a16, ok__law_marks_of F16 B MBadSet MNoSuch MBadFamily MNoText, k_16, b16⟩
  have q__law_asked : CalX l.prog w K mg base "_law_asked" 9 (spAs aBadFamily) := ⟨_, _, _, PySem.W.mg_of X G a17, ok__law_asked F17 q_shadow q_pushed q_apart q_shown, k_17, b17⟩
  have q__law_marks : Cal l.prog w K mg base "_law_marks" 11 spLm := ⟨_, _, _, PySem.W.mg_of X G a18, ok__law_marks F18 B MHeapError DHeapError m2 xk ktBadSet ktNoSuch ktBadFamily ktNoText ktV q__law_asked q__law_marks_of, k_18, b18⟩
  have q__law_bad_set : Cal l.prog w K mg base "_law_bad_set" 4 spBs := ⟨_, _, _, PySem.W.mg_of X G a19, ok__law_bad_set F19 B, k_19, b19⟩
  exact ok_law F20 B q__law_cell_at q__law_sets q__law_family_by q__law_size_of q__law_bad_set q__law_marks
theorem walk {l : PySem.W.OpenLaw} {q : Program} {loose : List Str} {XP : (Str → Option Value) → Heap → Prop} {YP : World → Heap → Prop} {d : DefRec} {K : Params → PySem.W.Frag} (hn : l.most = some 63) (hdf : d.params.defaults = [])
    (hY : ∀ (w : World) (h : Heap), YP w h → (K w.params).In h)
    (F : ∀ (w : World) (mg : Str → Option Value) (fa : Addr) (h : Heap), (K w.params).In h → h.Ns mainGlobals mg → mg d.name = some (.ref fa) →
      ∃ fd : FuncData, (∀ (s : Shared) (u : Value), BindsTo s fd ⟨[u], []⟩ [("script", u)]) ∧ ∀ base : Heap, (K w.params).In base → base.Ns mainGlobals mg → FnOk l.prog w (K w.params) mg base CX0 13 fa fd ["script"] (spLaw (K w.params))) :
    PySem.W.WalkO q loose XP YP l.row.toRowW d [] (fun f vs => PySem.call f vs) :=
  L2.walk_of (n := 63) (k := 13) (x := "script") (CX := fun _ => CX0) (sp := fun w => spLaw (K w.params)) hn (by decide) hdf ⟨rfl, by decide, by decide⟩ hY F (fun _ _ a ns hl _ hS => ⟨a, ns, rfl, hS, hl, fun _ => rfl⟩) fun _ _ _ _ _ z => z
end K04
open PySem PySem.W PyProof.Rows
set_option maxRecDepth 100000 in
set_option maxHeartbeats 0 in
theorem PySem.Challenge.cw_shadowheaps_k04_families_refused_holds : PySem.Challenge.rw_shadowheaps_k04_families_refused.Holds := by
  w_on; o_law; k_head; (case hw => w_witness2)
  k_fill
  refine K04.walk (l := PySem.Challenge.rw_shadowheaps_k04_families_refused) rfl rfl (fun w h Y => PySem.W.kIn_of Y) ?F
  case F =>
    intro w mg fa h KX G hmg
    refine' K04.all_mk KX G hmg ?a0 ?l0 ?c0 ?k_0 ?a1 ?l1 ?c1 ?k_1 ?a2 ?l2 ?c2 ?k_2 ?a3 ?l3 ?c3 ?k_3 ?a4 ?l4 ?c4 ?k_4 ?a5 ?l5 ?c5 ?k_5 ?a6 ?l6 ?c6 ?k_6 ?a7 ?l7 ?c7 ?k_7 ?a8 ?l8 ?c8 ?k_8 ?a9 ?l9 ?c9 ?k_9 ?a10 ?l10 ?c10 ?k_10 ?a11 ?l11 ?c11 ?k_11 ?a12 ?l12 ?c12 ?k_12 ?a13 ?l13 ?c13 ?k_13 ?a14 ?l14 ?c14 ?k_14 ?a15 ?l15 ?c15 ?k_15 ?a16 ?l16 ?c16 ?k_16 ?a17 ?l17 ?c17 ?k_17 ?a18 ?l18 ?c18 ?k_18 ?a19 ?l19 ?c19 ?k_19 ?a20 ?l20 ?c20 ?k_20 ?t0 ?t1 ?t2 ?z0 ?z1 ?z2 ?z3 ?z4 ?z5 ?z6 ?z7 ?z8 ?z9 ?z10 ?z11 ?z12 ?z13 ?z14 ?z15 ?z16 ?z17 ?nHeapError ?CHeapError ?YHeapError ?nBadSet ?CBadSet ?YBadSet ?nNoSuch ?CNoSuch ?YNoSuch ?nBadFamily ?CBadFamily ?YBadFamily ?nNoText ?CNoText ?YNoText ?e1 ?e2 ?e3 ?e4 ?e5 ?e6 ?e7 ?e8 ?m1 ?m2 ?m3 ?m4 ?g1 ?g2 ?g3 ?g4 ?g5 ?qBadSet ?sBadSet ?qNoSuch ?sNoSuch ?qNoText ?sNoText ?sV
    (case a0 => k_is)
    (case l0 => k_is)
    (case c0 => k_is)
    (case k_0 => k_is)
    (case a1 => k_is)
    (case l1 => k_is)
    (case c1 => k_is)
    (case k_1 => k_is)
    (case a2 => k_is)
    (case l2 => k_is)
    (case c2 => k_is)
    (case k_2 => k_is)
    (case a3 => k_is)
    (case l3 => k_is)
    (case c3 => k_is)
    (case k_3 => k_is)
    (case a4 => k_is)
    (case l4 => k_is)
    (case c4 => k_is)
    (case k_4 => k_is)
    (case a5 => k_is)
    (case l5 => k_is)
    (case c5 => k_is)
    (case k_5 => k_is)
    (case a6 => k_is)
    (case l6 => k_is)
    (case c6 => k_is)
    (case k_6 => k_is)
    (case a7 => k_is)
    (case l7 => k_is)
    (case c7 => k_is)
    (case k_7 => k_is)
    (case a8 => k_is)
    (case l8 => k_is)
    (case c8 => k_is)
    (case k_8 => k_is)
    (case a9 => k_is)
    (case l9 => k_is)
    (case c9 => k_is)
    (case k_9 => k_is)
    (case a10 => k_is)
    (case l10 => k_is)
    (case c10 => k_is)
    (case k_10 => k_is)
    (case a11 => k_is)
    (case l11 => k_is)
    (case c11 => k_is)
    (case k_11 => k_is)
    (case a12 => k_is)
    (case l12 => k_is)
    (case c12 => k_is)
    (case k_12 => k_is)
    (case a13 => k_is)
    (case l13 => k_is)
    (case c13 => k_is)
    (case k_13 => k_is)
    (case a14 => k_is)
    (case l14 => k_is)
    (case c14 => k_is)
    (case k_14 => k_is)
    (case a15 => k_is)
    (case l15 => k_is)
    (case c15 => k_is)
    (case k_15 => k_is)
    (case a16 => k_is)
    (case l16 => k_is)
    (case c16 => k_is)
    (case k_16 => k_is)
    (case a17 => k_is)
    (case l17 => k_is)
    (case c17 => k_is)
    (case k_17 => k_is)
    (case a18 => k_is)
    (case l18 => k_is)
    (case c18 => k_is)
    (case k_18 => k_is)
    (case a19 => k_is)
    (case l19 => k_is)
    (case c19 => k_is)
    (case k_19 => k_is)
    (case a20 => k_is)
    (case l20 => k_is)
    (case c20 => k_is)
    (case k_20 => k_is)
    (case t0 => k_is)
    (case t1 => k_is)
    (case t2 => k_is)
    (case z0 => k_is)
    (case z1 => k_is)
    (case z2 => k_is)
    (case z3 => k_is)
    (case z4 => k_is)
    (case z5 => k_is)
    (case z6 => k_is)
    (case z7 => k_is)
    (case z8 => k_is)
    (case z9 => k_is)
    (case z10 => k_is)
    (case z11 => k_is)
    (case z12 => k_is)
    (case z13 => k_is)
    (case z14 => k_is)
    (case z15 => k_is)
    (case z16 => k_is)
    (case z17 => k_is)
    (case nHeapError => k_is)
    (case CHeapError => k_is)
    (case YHeapError => k_is)
    (case nBadSet => k_is)
    (case CBadSet => k_is)
    (case YBadSet => k_is)
    (case nNoSuch => k_is)
    (case CNoSuch => k_is)
    (case YNoSuch => k_is)
    (case nBadFamily => k_is)
    (case CBadFamily => k_is)
    (case YBadFamily => k_is)
    (case nNoText => k_is)
    (case CNoText => k_is)
    (case YNoText => k_is)
    (case e1 => k_is)
    (case e2 => k_is)
    (case e3 => first | rfl | decide | kernel_rfl)
    (case e4 => k_is)
    (case e5 => k_is)
    (case e6 => k_is)
    (case e7 => first | rfl | decide | kernel_rfl)
    (case e8 => k_is)
    (case m1 => k_is)
    (case m2 => k_is)
    (case m3 => k_is)
    (case m4 => k_is)
    (case g1 => k_is)
    (case g2 => k_is)
    (case g3 => k_is)
    (case g4 => k_is)
    (case g5 => k_is)
    (case qBadSet => first | rfl | decide)
    (case sBadSet => k_is)
    (case qNoSuch => first | rfl | decide)
    (case sNoSuch => k_is)
    (case qNoText => first | rfl | decide)
    (case sNoText => k_is)
    (case sV => k_is)

