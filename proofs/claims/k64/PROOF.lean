import PyProof.Rows.All
import Wide.All
import OpenK.AllK
import Wide.FinOn
import Lean
import PyProof.EqAt
import PyProof.EqKinds
import PyProof.TupleCall
import PySem.Challenge.RW_stuckwires_k64_whole_texts_tell_apart
set_option Elab.async false
set_option linter.all false
set_option maxRecDepth 100000
set_option genSizeOf false
namespace L2
open PySem PySem.Spec PyProof.Rows

noncomputable abbrev Key := Sum Int Str
noncomputable def keyIs : Key → Value → Bool
  | .inl k, v => Value.isInt k v
  | .inr x, v => Value.isStrOf x v
noncomputable def keyH (w : World) : Key → Int
  | .inl k => hashInt k
  | .inr x => hashStr w x
theorem keyIs_shape : ∀ {k : Key} {v : Value}, keyIs k v = true → (∃ i t, k = Sum.inl i ∧ v = Value.int i t) ∨ (∃ x t, k = Sum.inr x ∧ v = Value.str x t)
  | .inl i, v, h => by
    obtain ⟨t, e⟩ := Value.isInt_shape (k := i) (v := v) h
    exact .inl ⟨i, t, rfl, e⟩
  | .inr x, v, h => by
    obtain ⟨t, e⟩ := Value.isStrOf_shape (x := x) (v := v) h
    exact .inr ⟨x, t, rfl, e⟩
theorem keyIs_int (i : Int) (t : Tok) : keyIs (.inl i) (.int i t) = true := by simp [keyIs, Value.isInt]
theorem keyIs_str (x : Str) (t : Tok) : keyIs (.inr x) (.str x t) = true := by simp [keyIs, Value.isStrOf]
theorem key_ll (a b : Int) : decide ((Sum.inl a : Key) = Sum.inl b) = (a == b) := by
  by_cases e : a = b
  · subst e; simp
  · have h : ¬ (Sum.inl a : Key) = Sum.inl b := fun q => e (Sum.inl.inj q)
    rw [decide_eq_false h]
    exact (beq_eq_false_iff_ne.mpr e).symm
theorem key_rr (a b : Str) : decide ((Sum.inr a : Key) = Sum.inr b) = decide (a = b) := by
  by_cases e : a = b
  · subst e; simp
  · have h : ¬ (Sum.inr a : Key) = Sum.inr b := fun q => e (Sum.inr.inj q)
    rw [decide_eq_false h, decide_eq_false e]
theorem key_lr (a : Int) (b : Str) : decide ((Sum.inl a : Key) = Sum.inr b) = false := decide_eq_false (fun q => nomatch q)
theorem key_rl (a : Str) (b : Int) : decide ((Sum.inr a : Key) = Sum.inl b) = false := decide_eq_false (fun q => nomatch q)

noncomputable def mixKind (prog : Program) (w : World) : PySem.KeyKind prog w Key where
  is := keyIs
  hash := keyH w
  inj := fun v a b ha hb => by
    rcases keyIs_shape ha with ⟨i, t, rfl, rfl⟩ | ⟨x, t, rfl, rfl⟩
    · rcases keyIs_shape hb with ⟨j, u, rfl, e⟩ | ⟨y, u, rfl, e⟩
      · injection e with e1 _; rw [e1]
      · exact nomatch e
    · rcases keyIs_shape hb with ⟨j, u, rfl, e⟩ | ⟨y, u, rfl, e⟩
      · exact nomatch e
      · injection e with e1 _; rw [e1]
  byValue := fun k v h => by
    rcases keyIs_shape h with ⟨i, t, rfl, rfl⟩ | ⟨x, t, rfl, rfl⟩ <;> rfl
  pyHash := fun hv h => by
    rcases keyIs_shape hv with ⟨i, t, rfl, rfl⟩ | ⟨x, t, rfl, rfl⟩
    · exact wpAny_pyHash_int h
    · exact wpAny_pyHash_str h
  eqBool := fun hu hv h => by
    rcases keyIs_shape hu with ⟨i, t, rfl, rfl⟩ | ⟨x, t, rfl, rfl⟩
    · rcases keyIs_shape hv with ⟨j, u, rfl, rfl⟩ | ⟨y, u, rfl, rfl⟩
      · rw [key_ll] at h; exact wpAny_eqBool_int h
      · rw [key_lr] at h; exact SeqAt.EqAt.int_str i t y u _ _ _ _ h
    · rcases keyIs_shape hv with ⟨j, u, rfl, rfl⟩ | ⟨y, u, rfl, rfl⟩
      · rw [key_rl] at h; exact SeqAt.EqAt.str_int x t j u _ _ _ _ h
      · rw [key_rr] at h; exact wpAny_eqBool_str h
  «strs» := fun k x t v h => by
    rcases keyIs_shape h with ⟨i, u, rfl, e⟩ | ⟨y, u, rfl, e⟩
    · exact nomatch e
    · injection e with e1 _
      subst e1
      cases v <;> rfl

theorem mixKind_int (prog : Program) (w : World) (i : Int) (t : Tok) : (mixKind prog w).is (.inl i) (.int i t) = true := keyIs_int i t
theorem mixKind_str (prog : Program) (w : World) (x : Str) (t : Tok) : (mixKind prog w).is (.inr x) (.str x t) = true := keyIs_str x t
end L2

namespace L2
open PySem PySem.Spec PyProof.Rows

inductive V where
  | non | bl (b : Bool) | int (i : Int) | str (x : Str) | byt (b : Array UInt8) | flt (b : UInt64) | ref (a : Addr) | ty (n : String)
  deriving DecidableEq

noncomputable def RelV : V → Value → Prop
  | .non, u => u = Value.none
  | .bl b, u => u = Value.bool b
  | .int i, u => ∃ t, u = Value.int i t
  | .str x, u => ∃ t, u = Value.str x t
  | .byt b, u => ∃ t, u = Value.bytes b t
  | .flt b, u => ∃ t, u = Value.float b t
  | .ref a, u => u = Value.ref a
  | .ty n, u => u = Value.type n

noncomputable abbrev Vals : List V → List Value → Prop := Paired RelV
theorem Vals.length {xs : List V} {us : List Value} (r : Vals xs us) : xs.length = us.length := Paired.length r
theorem Vals.get : ∀ {xs : List V} {us : List Value} {i : Nat} {x : V}, Vals xs us → xs[i]? = some x → ∃ u, us[i]? = some u ∧ RelV x u
  | _, _, _, _, .nil, e => by simp at e
  | _, _, 0, _, .cons r _, e => by simp at e; subst e; exact ⟨_, rfl, r⟩
  | _, _, i + 1, x, .cons _ t, e => by
    obtain ⟨u, h1, h2⟩ := Vals.get (i := i) (x := x) t (by simpa using e)
    exact ⟨u, by simpa using h1, h2⟩
theorem Vals.set {x : V} {u : Value} (r : RelV x u) : ∀ {xs : List V} {us : List Value} (i : Nat), Vals xs us → Vals (xs.set i x) (us.set i u)
  | _, _, _, .nil => .nil
  | _, _, 0, .cons _ t => .cons r t
  | _, _, i + 1, .cons q t => .cons q (Vals.set r i t)
theorem Vals.append : ∀ {xs ys : List V} {us ws : List Value}, Vals xs us → Vals ys ws → Vals (xs ++ ys) (us ++ ws)
  | _, _, _, _, .nil, s => s
  | _, _, _, _, .cons r t, s => .cons r (Vals.append t s)
theorem Vals.take : ∀ {xs : List V} {us : List Value} (n : Nat), Vals xs us → Vals (xs.take n) (us.take n)
  | _, _, 0, _ => .nil
  | _, _, _ + 1, .nil => .nil
  | _, _, n + 1, .cons r t => .cons r (Vals.take n t)
theorem Vals.drop : ∀ {xs : List V} {us : List Value} (n : Nat), Vals xs us → Vals (xs.drop n) (us.drop n)
  | _, _, 0, r => r
  | _, _, _ + 1, .nil => .nil
  | _, _, n + 1, .cons _ t => Vals.drop n t
noncomputable def RelO : Option V → Option Value → Prop
  | some v, some u => RelV v u
  | none, none => True
  | _, _ => False
noncomputable def KV {κ : Type} : List (κ × V) → List (κ × Value) → Prop := Paired fun (p : κ × V) (q : κ × Value) => p.1 = q.1 ∧ RelV p.2 q.2

noncomputable def kV : Key → V
  | .inl i => .int i
  | .inr x => .str x

inductive HO where
    | lst (xs : List V)
    | tup (xs : List V)
    | dK (kvs : List (Key × V)) | dT (kvs : List (List Key × V))
    | set (S : Int → Bool) (n : Nat)
    | ins (C dx : Addr) (fs : List (Str × V))
    | own (x : Addr)
    | xd (fs : List (Str × V))
    | met (f x : Addr)
    | rng (lo hi : Int)
    | frz (o : Obj) (u : HO)
    | tbl (ps : Array Value)
    | ext (φ : Heap → Prop)

noncomputable abbrev Hp := Addr → Option HO
noncomputable def upd (H : Hp) (a : Addr) (o : HO) : Hp := fun b => if b = a then some o else H b
theorem upd_same {H : Hp} {a : Addr} {o : HO} : upd H a o a = some o := by unfold upd; rw [if_pos rfl]
theorem upd_ne {H : Hp} {a b : Addr} {o : HO} (h : b ≠ a) : upd H a o b = H b := by unfold upd; rw [if_neg h]
theorem ne_of {H : Hp} {a b : Addr} {o u : HO} (h : H a = some o) (h' : H b = some u) (d : o ≠ u) : a ≠ b := by
  intro e; subst e; rw [h] at h'; exact d (Option.some.inj h')
theorem ne_of_none {H : Hp} {a b : Addr} {o : HO} (h : H a = some o) (h' : H b = none) : a ≠ b := by
  intro e; subst e; rw [h] at h'; cases h'

section
variable (P : Program) (w : World)
noncomputable def ObjOk (H : Hp) (h : Heap) (a : Addr) : HO → Prop
  | .lst xs => xs.length ≤ sizeLine ∧ ∃ (its : List Value) (n : Nat), Vals xs its ∧ h.get? a = some { cls := .type "list", data := .seq its.toArray n }
  | .tup xs => xs.length ≤ sizeLine ∧ ∃ its : List Value, Vals xs its ∧ IsTup h a its.toArray
  | .dK kvs => kvs.length ≤ sizeLine ∧ (a == sysModules) = false ∧ ∃ vs, KV kvs vs ∧ h.DictOf (mixKind P w) a vs
  | .dT kvs => kvs.length ≤ sizeLine ∧ (a == sysModules) = false ∧ ∃ xs : List (List Key × Addr × Value),
      Paired (fun (p : List Key × V) (q : List Key × Addr × Value) => p.1 = q.1 ∧ H q.2.1 = some (.tup (p.1.map kV)) ∧ RelV p.2 q.2.2) kvs xs ∧
      ∃ o es ep, h.get? a = some o ∧ o.ExactDict ∧ o.data = .dict es ep ∧ es.toList = xs.map (entryOfKey (tupleKind (mixKind P w))) ∧ (xs.map (·.1)).Nodup
  | .set S n => h.SetOf (intKind P w) a S n
  | .ins C dx fs => H dx = some (.own a) ∧ fs.length ≤ 1000 ∧ dx ≠ a ∧ h.get? a = some (PySem.W.instObj C dx) ∧
      ∃ mA, h.Ns1 dx mA ∧ (∀ f, RelO (fs.lookup f) (mA f)) ∧ PySem.Within mA (fs.map (·.1))
  | .own _ => ∃ o, h.get? a = some o
  | .xd fs => ∃ mA, h.Ns1 a mA ∧ ∀ f, RelO (fs.lookup f) (mA f)
  | .rng lo hi => ∃ t u v, h.get? a = some { cls := .type "range", data := .fields #[.int lo t, .int hi u, .int 1 v] }
  | .frz o u => h.get? a = some o ∧ ObjOk H h a u
  | .tbl ps => h.get? a = some { cls := .none, data := .fields ps }
  | .met f x => h.get? a = some (PySem.W.methodObj (.ref f) (.ref x))
  | .ext φ => φ h ∧ (∃ o, h.get? a = some o) ∧ ∀ h1 h2 : Heap, φ h1 → (∀ o, h1.get? a = some o → h2.get? a = some o) → φ h2
noncomputable def HOk (H : Hp) (h : Heap) : Prop := ∀ a o, H a = some o → ObjOk P w H h a o
end

section
variable {P : Program} {w : World} {H H' : Hp} {h h' : Heap} {a : Addr} {o : HO}
theorem ObjOk.lt (x : ObjOk P w H h a o) : a < h.objs.size := by
  cases o with
  | lst xs => obtain ⟨_, _, _, _, e⟩ := x; exact Heap.lt_size e
  | tup xs => obtain ⟨_, _, _, p⟩ := x; exact p.lt
  | dK kvs => obtain ⟨_, _, _, _, o, _, _, e, _⟩ := x; exact Heap.lt_size e
  | dT kvs => obtain ⟨_, _, _, _, o, _, _, e, _⟩ := x; exact Heap.lt_size e
  | set S n => obtain ⟨o, _, _, _, e, _⟩ := x; exact Heap.lt_size e
  | ins C dx fs => obtain ⟨_, _, _, e, _⟩ := x; exact Heap.lt_size e
  | own y => obtain ⟨_, e⟩ := x; exact Heap.lt_size e
  | xd fs => obtain ⟨_, ⟨_, _, _, e, _⟩, _⟩ := x; exact Heap.lt_size e
  | rng lo hi => obtain ⟨_, _, _, e⟩ := x; exact Heap.lt_size e
  | frz ob u => obtain ⟨e, _⟩ := x; exact Heap.lt_size e
  | tbl ps => exact Heap.lt_size (show h.get? a = some _ from x)
  | met f y => exact Heap.lt_size (show h.get? a = some _ from x)
  | ext φ => obtain ⟨_, ⟨_, e⟩, _⟩ := x; exact Heap.lt_size e
theorem Paired.mapP {α β : Type} {F G : α → β → Prop} : ∀ {l₁ : List α} {l₂ : List β}, Paired F l₁ l₂ → (∀ a b, F a b → G a b) → Paired G l₁ l₂
  | _, _, .nil, _ => .nil
  | _, _, .cons r t, f => .cons (f _ _ r) (Paired.mapP t f)
theorem ObjOk.stay (x : ObjOk P w H h a o) (k : ∀ b u, (b = a ∨ H b = some (.own a)) → h.get? b = some u → h'.get? b = some u)
    (ho : ∀ b, H b = some (.own a) → H' b = some (.own a)) (ht : ∀ b xs, H b = some (.tup xs) → H' b = some (.tup xs)) : ObjOk P w H' h' a o := by
  induction o with
  | lst xs => obtain ⟨z, its, n, r, e⟩ := x; exact ⟨z, its, n, r, k _ _ (.inl rfl) e⟩
  | tup xs => obtain ⟨z, its, r, ob, e, c⟩ := x; exact ⟨z, its, r, ob, k _ _ (.inl rfl) e, c⟩
  | dK kvs => obtain ⟨z, y, vs, r, ob, es, ep, e, c⟩ := x; exact ⟨z, y, vs, r, ob, es, ep, k _ _ (.inl rfl) e, c⟩
  | dT kvs =>
    obtain ⟨z, y, xs, r, ob, es, ep, e, c⟩ := x
    exact ⟨z, y, xs, Paired.mapP r fun p q z => ⟨z.1, ht _ _ z.2.1, z.2.2⟩, ob, es, ep, k _ _ (.inl rfl) e, c⟩
  | set S n => obtain ⟨ob, es, ep, t, e, c⟩ := x; exact ⟨ob, es, ep, t, k _ _ (.inl rfl) e, c⟩
  | ins C dx fs =>
    obtain ⟨d, z, ne, e, mA, ⟨od, es, ep, e2, c⟩, r⟩ := x
    exact ⟨ho _ d, z, ne, k _ _ (.inl rfl) e, mA, ⟨od, es, ep, k _ _ (.inr d) e2, c⟩, r⟩
  | own y => obtain ⟨ob, e⟩ := x; exact ⟨ob, k _ _ (.inl rfl) e⟩
  | xd fs => obtain ⟨mA, ⟨od, es, ep, e, c⟩, r⟩ := x; exact ⟨mA, ⟨od, es, ep, k _ _ (.inl rfl) e, c⟩, r⟩
  | rng lo hi => obtain ⟨t, u, v, e⟩ := x; exact ⟨t, u, v, k _ _ (.inl rfl) e⟩
  | frz ob u ih => obtain ⟨e, q⟩ := x; exact ⟨k _ _ (.inl rfl) e, ih q⟩
  | tbl ps =>
    have e : h.get? a = some { cls := .none, data := .fields ps } := x
    show h'.get? a = some { cls := .none, data := .fields ps }
    exact k a _ (.inl rfl) e
  | met f y =>
    have e : h.get? a = some (PySem.W.methodObj (.ref f) (.ref y)) := x
    show h'.get? a = some (PySem.W.methodObj (.ref f) (.ref y))
    exact k a _ (.inl rfl) e
  | ext φ => obtain ⟨p, ⟨o, e⟩, st⟩ := x; exact ⟨st _ _ p fun o q => k _ _ (.inl rfl) q, ⟨o, k _ _ (.inl rfl) e⟩, st⟩
theorem HOk.lt (x : HOk P w H h) (e : H a = some o) : a < h.objs.size := (x a o e).lt
theorem HOk.fresh (x : HOk P w H h) (e : h.objs.size ≤ a) : H a = none := by
  cases q : H a with
  | none => rfl
  | some u => exact absurd (Nat.lt_of_lt_of_le (x.lt q) e) (Nat.lt_irrefl _)
theorem HOk.kept (x : HOk P w H h) (k : ∀ b u, h.get? b = some u → h'.get? b = some u) : HOk P w H h' := fun a o e =>
  (x a o e).stay (fun b u _ q => k b u q) (fun _ q => q) fun _ _ q => q
theorem HOk.laid (x : HOk P w H h) (k : ∀ b u, h.get? b = some u → h'.get? b = some u) (hp : h.objs.size ≤ a) (new : ObjOk P w (upd H a o) h' a o) : HOk P w (upd H a o) h' := fun b u e => by
  have hn := x.fresh hp
  by_cases hb : b = a
  · subst hb; rw [upd_same] at e; cases e; exact new
  · rw [upd_ne hb] at e
    exact (x b u e).stay (fun c v _ q => k c v q) (fun c q => by rw [upd_ne (ne_of_none q hn)]; exact q) fun c xs q => by rw [upd_ne (ne_of_none q hn)]; exact q
end

noncomputable def Rd (H : Hp) (a : Addr) (u : HO) : Prop := H a = some u ∨ ∃ o, H a = some (.frz o u)
theorem Rd.of {H : Hp} {a : Addr} {u : HO} (h : H a = some u) : Rd H a u := .inl h
theorem Rd.ok {P : Program} {w : World} {H : Hp} {h : Heap} {a : Addr} {u : HO} (r : Rd H a u) (x : HOk P w H h) : ObjOk P w H h a u := by
  rcases r with r | ⟨o, r⟩
  · exact x a u r
  · obtain ⟨_, q⟩ := x a _ r
    exact q
noncomputable def Mut : Option HO → Prop
  | some (.lst _) => True
  | some (.dK _) => True
  | some (.dT _) => True
  | some (.set _ _) => True
  | some (.ins _ _ _) => True
  | some (.ext _) => True
  | _ => False
section
variable {P : Program} {w : World} {H : Hp} {h h' : Heap} {x e : Addr} {o' : HO}
theorem HOk.write (ok : HOk P w H h) (mu : Mut (H x)) (he : e = x ∨ H e = some (.own x)) (k : ∀ b u, b ≠ e → h.get? b = some u → h'.get? b = some u) (heo : ∃ u, h'.get? e = some u)
    (new : ObjOk P w (upd H x o') h' x o') : HOk P w (upd H x o') h' := fun b u q => by
  have nown : ∀ c y, H c = some (.own y) → c ≠ x := fun c y r z => by subst z; rw [r] at mu; exact mu
  have ntup : ∀ c xs, H c = some (.tup xs) → c ≠ x := fun c xs r z => by subst z; rw [r] at mu; exact mu
  by_cases hb : b = x
  · subst hb; rw [upd_same] at q; cases q; exact new
  · rw [upd_ne hb] at q
    by_cases hbe : b = e
    · have q' : H b = some (.own x) := by
        rcases he with z | z
        · exact absurd (hbe.trans z) hb
        · rw [hbe]; exact z
      rw [q] at q'; cases q'
      obtain ⟨v, hv⟩ := heo
      exact ⟨v, by rw [hbe]; exact hv⟩
    · refine (ok b u q).stay (fun c v hc r => k c v ?_ r) (fun c r => by rw [upd_ne (nown c b r)]; exact r) fun c xs r => by rw [upd_ne (ntup c xs r)]; exact r
      rcases hc with rfl | hc
      · exact hbe
      · rintro rfl
        rcases he with z | z
        · exact nown c b hc z
        · rw [hc] at z; cases z; exact hb rfl
end

structure Un (fs ex : List Addr) (H H' : Hp) (h h' : Heap) : Prop where
  keep : ∀ b o, h.get? b = some o → H b = none → b ∉ fs → b ∉ ex → h'.get? b = some o
  slot : ∀ b o, h.get? b = some o → H b = none → b ∈ fs → b ∉ ex → ∃ sl, h'.get? b = some { o with slots := sl }
  free : ∀ b o, h.get? b = some o → H b = none → b ∉ ex → H' b = none
  there : ∀ b o, h.get? b = some o → b ∉ ex → ∃ o', h'.get? b = some o'
  tups : ∀ b xs, H b = some (.tup xs) → H' b = some (.tup xs)
  frzs : ∀ b o u, H b = some (.frz o u) → H' b = some (.frz o u)
  tbls : ∀ b ps, H b = some (.tbl ps) → ∃ more, H' b = some (.tbl (ps ++ more))
section
variable {fs fs' ex ex' : List Addr} {H H1 H2 : Hp} {h h1 h2 h' : Heap} {a x e : Addr} {o : HO}
theorem Un.any (u : Un fs ex H H1 h h1) {b : Addr} {ob : Obj} (q : h.get? b = some ob) (n : H b = none) (hx : b ∉ ex) : ∃ sl, h1.get? b = some { ob with slots := sl } := by
  by_cases hb : b ∈ fs
  · exact u.slot b ob q n hb hx
  · exact ⟨ob.slots, u.keep b ob q n hb hx⟩
theorem Un.trans (a : Un fs ex H H1 h h1) (b : Un fs ex H1 H2 h1 h2) : Un fs ex H H2 h h2 where
  keep := fun c ob q n hc hx => b.keep c ob (a.keep c ob q n hc hx) (a.free c ob q n hx) hc hx
  slot := fun c ob q n hc hx => by
    obtain ⟨sl, e1⟩ := a.slot c ob q n hc hx
    obtain ⟨sl', e2⟩ := b.slot c _ e1 (a.free c ob q n hx) hc hx
    exact ⟨sl', e2⟩
  free := fun c ob q n hx => by
    obtain ⟨o', e1⟩ := a.there c ob q hx
    exact b.free c o' e1 (a.free c ob q n hx) hx
  there := fun c ob q hx => by
    obtain ⟨o', e1⟩ := a.there c ob q hx
    exact b.there c o' e1 hx
  tups := fun c xs q => b.tups c xs (a.tups c xs q)
  frzs := fun c ob xs q => b.frzs c ob xs (a.frzs c ob xs q)
  tbls := fun c ps q => by
    obtain ⟨m1, e1⟩ := a.tbls c ps q
    obtain ⟨m2, e2⟩ := b.tbls c _ e1
    exact ⟨m1 ++ m2, by rw [e2, Array.append_assoc]⟩
theorem Un.kept (k : ∀ b u, h.get? b = some u → h'.get? b = some u) : Un fs ex H H h h' :=
  ⟨fun b ob q _ _ _ => k b ob q, fun b ob q _ _ _ => ⟨ob.slots, k b ob q⟩, fun _ _ _ n _ => n, fun b ob q _ => ⟨ob, k b ob q⟩, fun _ _ q => q, fun _ _ _ q => q, fun _ ps q => ⟨#[], by rw [q]; simp⟩⟩
theorem Un.refl : Un fs ex H H h h := Un.kept fun _ _ q => q
theorem Un.laid (k : ∀ b u, h.get? b = some u → h'.get? b = some u) (hp : h.objs.size ≤ a) (hn : H a = none) : Un fs ex H (upd H a o) h h' where
  keep := fun b u q _ _ _ => k b u q
  slot := fun b u q _ _ _ => ⟨u.slots, k b u q⟩
  free := fun b u q n _ => by rw [upd_ne (Nat.ne_of_lt (Nat.lt_of_lt_of_le (Heap.lt_size q) hp))]; exact n
  there := fun b u q _ => ⟨u, k b u q⟩
  tups := fun b xs q => by rw [upd_ne (ne_of_none q hn)]; exact q
  frzs := fun b u xs q => by rw [upd_ne (ne_of_none q hn)]; exact q
  tbls := fun b ps q => ⟨#[], by rw [upd_ne (ne_of_none q hn), q]; simp⟩
theorem Un.write (mu : Mut (H x)) (he : e = x ∨ H e = some (.own x)) (k : ∀ b u, b ≠ e → h.get? b = some u → h'.get? b = some u) (heo : ∃ u, h'.get? e = some u) : Un fs ex H (upd H x o) h h' := by
  have hx : ∀ b, H b = none → b ≠ x := fun b n z => by subst z; rw [n] at mu; exact mu
  have hb : ∀ b, H b = none → b ≠ e := fun b n z => by
    subst z
    rcases he with r | r
    · exact hx b n r
    · rw [n] at r; cases r
  have hm : ∀ b u, H b = some u → ¬ Mut (some u) → b ≠ x := fun b u q nm z => by subst z; rw [q] at mu; exact nm mu
  refine ⟨fun b u q n _ _ => k b u (hb b n) q, fun b u q n _ _ => ⟨u.slots, k b u (hb b n) q⟩, fun b u q n _ => by rw [upd_ne (hx b n)]; exact n, fun b u q _ => ?_,
    fun b xs q => by rw [upd_ne (hm b _ q fun z => z)]; exact q, fun b u xs q => by rw [upd_ne (hm b _ q fun z => z)]; exact q, fun b ps q => ⟨#[], by rw [upd_ne (hm b _ q fun z => z), q]; simp⟩⟩
  by_cases hbe : b = e
  · subst hbe; exact heo
  · exact ⟨u, k b u hbe q⟩
theorem Un.mono (u : Un fs ex H H1 h h1) (hs : ∀ b ∈ fs, b ∈ fs') (hx : ∀ b ∈ ex, b ∈ ex') : Un fs' ex' H H1 h h1 :=
  ⟨fun b ob q n hb he => u.keep b ob q n (fun z => hb (hs b z)) fun z => he (hx b z), fun _ _ q n _ he => u.any q n fun z => he (hx _ z), fun b ob q n he => u.free b ob q n fun z => he (hx b z), fun b ob q he => u.there b ob q fun z => he (hx b z), u.tups, u.frzs, u.tbls⟩
end

noncomputable def trk (h : Heap) (H : Hp) : List Addr := (List.range h.objs.size).filter fun a => (H a).isSome
noncomputable def hidT (h : Heap) (H : Hp) : Heap := PySem.W.hideAll h (trk h H)
theorem hidT_size (h : Heap) (H : Hp) : (hidT h H).objs.size = h.objs.size := PySem.W.hideAll_size _ _
theorem hidT_get {h : Heap} {H : Hp} {b : Addr} {o : Obj} (e : h.get? b = some o) (n : H b = none) : (hidT h H).get? b = some o :=
  PySem.W.hideAll_get _ e fun hm => by
    have q : (H b).isSome = true := (List.mem_filter.mp hm).2
    rw [n] at q; simp at q
theorem of_hidT {h : Heap} {H : Hp} {b : Addr} {o : Obj} (e : (hidT h H).get? b = some o) : h.get? b = some o ∧ H b = none := by
  have e' : h.get? b = some o := PySem.W.of_hideAll (trk h H) e
  refine ⟨e', ?_⟩
  cases q : H b with
  | none => rfl
  | some x =>
    have hm : b ∈ trk h H := List.mem_filter.mpr ⟨List.mem_range.mpr (Heap.lt_size e'), by simp [q]⟩
    have z : (hidT h H).get? b = none := PySem.W.hideAll_none (trk h H) hm
    rw [z] at e; cases e

noncomputable def allNews (g h : Heap) (L : Addr) : List (Addr × Obj) := (List.range h.objs.size).filterMap fun a => if a = L ∨ (g.get? a).isSome = true then none else (h.get? a).map fun o => (a, o)
noncomputable def rest (g h : Heap) (L d : Addr) : List (Addr × Obj) := (allNews g h L).filter fun p => decide (p.1 ≠ d)
end L2

namespace L2
open PySem PySem.Spec PyProof.Rows

structure Mod (K : PySem.W.Frag) (mg : Str → Option Value) (base : Heap) : Prop where
  kin : K.In base
  glob : base.Ns mainGlobals mg
  blt : ∃ mb, base.Ns builtinsNs mb ∧ ∀ x : Str, x ≠ "__name__" → mb x = bootBuiltins x
  nolimit : base.NoLimit

structure Cx where
  prog : Program
  w : World
  K : PySem.W.Frag
  mg : Str → Option Value
  base : Heap
  A : Around
  N : List Str
  s₀ : Shared
  H₀ : Hp
  env : Env
  outer : List Env
  stack : List Env
  ex : List Addr
  fn : Str → Bool
  calm : Bool
  pn : List (Addr × Obj)
  xe : Value → Shared → Prop
noncomputable def frs (l : List Env) : List Addr := l.filterMap (·.frame)
noncomputable abbrev Cx.fs (X : Cx) : List Addr := frs X.outer

noncomputable def Vis (sc : Scope) (x : Str) : Prop := sc.names.lookup x = some .local ∨ sc.names.lookup x = some .cell ∨ sc.names.lookup x = some .free
noncomputable def Loc (sc : Scope) (x : Str) : Prop := sc.names.lookup x = some .local ∨ sc.names.lookup x = some .cell
noncomputable def Look (env : Env) (h : Heap) (m : Str → Option Value) (x : Str) (u : Value) : Prop :=
  (env.kindOf x = some .local ∧ m x = some u) ∨ ((env.kindOf x = some .cell ∨ env.kindOf x = some .free) ∧ ∃ c, env.cells.lookup x = some c ∧ h.IsCell c (some u))

structure Cx.Ok (X : Cx) : Prop where
  mod : Mod X.K X.mg X.base
  kind : X.env.scope.kind = .function
  glob : X.env.globals = mainGlobals
  blt : X.env.builtins = builtinsNs
  above : X.s₀.heap.objs.size ≤ X.env.locals
  inj : ∀ x y c, X.env.cells.lookup x = some c → X.env.cells.lookup y = some c → x = y
  has : ∀ x, (X.env.kindOf x = some .cell ∨ X.env.kindOf x = some .free) → ∃ c, X.env.cells.lookup x = some c
  cab : ∀ x c, X.fn x = true → X.env.cells.lookup x = some c → X.s₀.heap.objs.size ≤ c
  hd : X.calm = true → X.A.handled = none
  frames : X.A.frames = some X.stack
  stk : X.stack = X.outer ∨ (X.stack = X.env :: X.outer ∧ X.env.frame = some X.env.locals)
  exf : ∀ b ∈ X.ex, b ≠ X.env.locals ∧ ∀ x c, X.env.cells.lookup x = some c → c ≠ b
  bs : ∀ b o, X.base.get? b = some o → X.s₀.heap.get? b = some o ∧ X.H₀ b = none
  bsz : X.base.objs.size ≤ X.s₀.heap.objs.size
  noex : ∀ b o, X.base.get? b = some o → b ∉ X.ex
  exfs : ∀ b ∈ X.ex, b ∉ X.fs
  funs : X.s₀.heap.FunFrames X.base X.outer
  frf : ∀ b ∈ X.fs, X.H₀ b = none

structure Inv (X : Cx) (pins : List (Addr × Obj)) (σ : List (Option V)) (H : Hp) (s : Shared) : Prop where
  ok : X.Ok
  os : s.os = X.s₀.os
  bare : AllBare s.gens
  base : Un X.fs X.ex X.H₀ H X.s₀.heap s.heap
  loc : ∃ m, s.heap.Ns X.env.locals m ∧ ∀ (i : Nat) (x : Str) (v : V), X.N[i]? = some x → σ[i]? = some (some v) → Vis X.env.scope x → ∃ u, RelV v u ∧ Look X.env s.heap m x u
  cell : ∀ x c, X.env.cells.lookup x = some c → ∃ v, s.heap.IsCell c v
  free : H X.env.locals = none
  freeC : ∀ x c, X.env.cells.lookup x = some c → H c = none
  pin : ∀ p ∈ X.pn ++ pins, s.heap.get? p.1 = some p.2 ∧ H p.1 = none ∧ p.1 ≠ X.env.locals ∧ p.1 ∉ X.fs ∧ ∀ v, p.2.data ≠ .cell v
  hok : HOk X.prog X.w H s.heap
  len : σ.length = X.N.length

section
variable {X : Cx} {pins : List (Addr × Obj)} {σ : List (Option V)} {H H' : Hp} {s : Shared} {h' : Heap}

theorem Cx.Ok.nofr (ok : X.Ok) {b : Addr} {o : Obj} (e : X.base.get? b = some o) : b ∉ X.fs := fun hb => by
  have := (ok.funs.mem hb).1
  rw [e] at this; cases this
theorem Inv.bs (I : Inv X pins σ H s) : ∀ b o, X.base.get? b = some o → s.heap.get? b = some o ∧ H b = none := fun b o e =>
  ⟨I.base.keep b o (I.ok.bs b o e).1 (I.ok.bs b o e).2 (I.ok.nofr e) (I.ok.noex b o e), I.base.free b o (I.ok.bs b o e).1 (I.ok.bs b o e).2 (I.ok.noex b o e)⟩
theorem Inv.bk (I : Inv X pins σ H s) : ∀ b o, X.base.get? b = some o → s.heap.get? b = some o := fun b o e => (I.bs b o e).1
theorem Inv.mod (I : Inv X pins σ H s) : Mod X.K X.mg X.base := I.ok.mod
theorem Inv.kIn (I : Inv X pins σ H s) : X.K.In s.heap := I.ok.mod.kin.keeps I.bk
theorem Inv.nolimit (I : Inv X pins σ H s) : s.heap.NoLimit := I.ok.mod.nolimit.keeps I.bk
theorem Inv.lt (I : Inv X pins σ H s) : X.env.locals < s.heap.objs.size := let ⟨_, hn, _⟩ := I.loc; hn.lt
theorem Inv.sz (I : Inv X pins σ H s) : X.s₀.heap.objs.size ≤ s.heap.objs.size := Nat.le_trans I.ok.above (Nat.le_of_lt I.lt)
theorem Inv.nofs (I : Inv X pins σ H s) {a : Addr} (h : s.heap.objs.size ≤ a) : a ∉ X.fs := fun hb => by
  obtain ⟨_, o, ho, _⟩ := I.ok.funs.mem hb
  exact absurd (Nat.lt_of_lt_of_le (Heap.lt_size ho) (Nat.le_trans I.sz h)) (Nat.lt_irrefl _)
theorem Inv.cne (I : Inv X pins σ H s) : ∀ x c, X.env.cells.lookup x = some c → c ≠ X.env.locals := fun x c e z => by
  obtain ⟨v, o, ho, hd⟩ := I.cell x c e
  obtain ⟨m, ⟨o', es, ep, ho', hd', _⟩, _⟩ := I.loc
  rw [z, ho'] at ho; cases ho; rw [hd'] at hd; cases hd
theorem Inv.funs (I : Inv X pins σ H s) : s.heap.FunFrames X.base X.outer := by
  have all : ∀ (l : List Env), (∀ b ∈ frs l, b ∈ X.fs) → X.s₀.heap.FunFrames X.base l → s.heap.FunFrames X.base l := by
    intro l
    induction l with
    | nil => intro _ _; trivial
    | cons env r ih =>
      intro hs hl
      obtain ⟨hk, ⟨L, o, hf, hn, ho, hd⟩, hr⟩ := hl
      have hL : L ∈ X.fs := hs L (by unfold frs; rw [List.filterMap_cons, hf]; exact List.mem_cons_self)
      obtain ⟨sl, e⟩ := I.base.slot L o ho (I.ok.frf L hL) hL fun z => I.ok.exfs L z hL
      exact ⟨hk, ⟨L, _, hf, hn, e, hd⟩, ih (fun b hb => hs b (by unfold frs; rw [List.filterMap_cons, hf]; exact List.mem_cons_of_mem _ hb)) hr⟩
  exact all X.outer (fun _ hb => hb) I.ok.funs

theorem Inv.stack (I : Inv X pins σ H s) : s.heap.FunFrames X.base X.stack := by
  rcases I.ok.stk with e | ⟨e, hf⟩
  · rw [e]; exact I.funs
  · rw [e]
    obtain ⟨m, hn, _⟩ := I.loc
    refine .cons (by rw [I.ok.kind]; decide) hf hn ?_ I.funs
    exact Heap.get?_none_of_le (Nat.le_trans I.ok.bsz I.ok.above)
theorem Inv.stkSub (I : Inv X pins σ H s) : ∀ b ∈ frs X.stack, b ∈ X.env.locals :: X.fs := fun b hb => by
  rcases I.ok.stk with e | ⟨e, hf⟩
  · rw [e] at hb; exact List.mem_cons_of_mem _ hb
  · rw [e] at hb
    unfold frs at hb
    rw [List.filterMap_cons, hf] at hb
    exact hb
theorem Inv.stkFree (I : Inv X pins σ H s) : ∀ b ∈ frs X.stack, H b = none := fun b hb => by
  rcases List.mem_cons.mp (I.stkSub b hb) with e | hb
  · rw [e]; exact I.free
  · obtain ⟨_, o, ho, _⟩ := I.ok.funs.mem hb
    exact I.base.free b o ho (I.ok.frf b hb) fun z => I.ok.exfs b z hb

theorem Inv.step {g' : Array GenState} {t' : Nat} {d' : Drawn} {ch : List Addr} (I : Inv X pins σ H s)
    (hch : ∀ b ∈ ch, (b ∈ X.ex ∨ X.s₀.heap.objs.size ≤ b) ∧ b ≠ X.env.locals ∧ (∀ x c, X.env.cells.lookup x = some c → c ≠ b) ∧ ∀ p ∈ X.pn ++ pins, p.1 ≠ b)
    (keep : ∀ b o, b ≠ X.env.locals → b ∉ X.fs → b ∉ ch → s.heap.get? b = some o → H b = none → h'.get? b = some o)
    (slot : ∀ b o, b ≠ X.env.locals → b ∈ X.fs → b ∉ ch → s.heap.get? b = some o → H b = none → ∃ sl, h'.get? b = some { o with slots := sl }) (free : ∀ b o, b ∉ ch → s.heap.get? b = some o → H b = none → H' b = none)
    (there : ∀ b o, b ∉ ch → s.heap.get? b = some o → ∃ o', h'.get? b = some o')
    (tups : ∀ b xs, H b = some (.tup xs) → H' b = some (.tup xs)) (frzs : ∀ b o u, H b = some (.frz o u) → H' b = some (.frz o u)) (tbls : ∀ b ps, H b = some (.tbl ps) → ∃ more, H' b = some (.tbl (ps ++ more)))
    (ns : ∀ m, s.heap.Ns X.env.locals m → h'.Ns X.env.locals m) (hok : HOk X.prog X.w H' h') (hg : AllBare g') :
    Inv X pins σ H' { s with heap := h', gens := g', drawn := d', toks := t' } := by
  have neL : ∀ b o, X.s₀.heap.get? b = some o → b ≠ X.env.locals := fun b o e => Nat.ne_of_lt (Nat.lt_of_lt_of_le (Heap.lt_size e) I.ok.above)
  have neC : ∀ b o, X.s₀.heap.get? b = some o → b ∉ X.ex → b ∉ ch := fun b o e hx hb => by
    rcases (hch b hb).1 with z | z
    · exact hx z
    · exact absurd (Nat.lt_of_lt_of_le (Heap.lt_size e) z) (Nat.lt_irrefl _)
  have cellK : ∀ x c, X.env.cells.lookup x = some c → ∀ v, s.heap.IsCell c v → h'.IsCell c v := fun x c e v ⟨o, ho, hd⟩ => by
    have nch : c ∉ ch := fun z => (hch c z).2.2.1 x c e rfl
    by_cases hc : c ∈ X.fs
    · obtain ⟨sl, q⟩ := slot c o (I.cne x c e) hc nch ho (I.freeC x c e)
      exact ⟨_, q, hd⟩
    · exact ⟨o, keep c o (I.cne x c e) hc nch ho (I.freeC x c e), hd⟩
  refine ⟨I.ok, I.os, hg, ⟨fun b o e n hb hx => ?_, fun b o e n hb hx => ?_, fun b o e n hx => ?_, fun b o e hx => ?_, fun b xs e => tups b xs (I.base.tups b xs e), fun b o xs e => frzs b o xs (I.base.frzs b o xs e), fun b ps e => ?_⟩, ?_, fun x c e => ?_, ?_, fun x c e => ?_, fun p hp => ?_, hok, I.len⟩
  · exact keep b o (neL b o e) hb (neC b o e hx) (I.base.keep b o e n hb hx) (I.base.free b o e n hx)
  · obtain ⟨sl, e1⟩ := I.base.slot b o e n hb hx
    obtain ⟨sl', e2⟩ := slot b _ (neL b o e) hb (neC b o e hx) e1 (I.base.free b o e n hx)
    exact ⟨sl', e2⟩
  · obtain ⟨o', e1⟩ := I.base.there b o e hx
    exact free b o' (neC b o e hx) e1 (I.base.free b o e n hx)
  · obtain ⟨o', e1⟩ := I.base.there b o e hx
    exact there b o' (neC b o e hx) e1
  · obtain ⟨m1, e1⟩ := I.base.tbls b ps e
    obtain ⟨m2, e2⟩ := tbls b _ e1
    exact ⟨m1 ++ m2, by rw [e2, Array.append_assoc]⟩
  · obtain ⟨m, hn, hl⟩ := I.loc
    refine ⟨m, ns m hn, fun i x v e1 e2 e3 => ?_⟩
    obtain ⟨u, r, l⟩ := hl i x v e1 e2 e3
    refine ⟨u, r, ?_⟩
    rcases l with l | ⟨k, c, e, z⟩
    · exact .inl l
    · exact .inr ⟨k, c, e, cellK x c e _ z⟩
  · obtain ⟨v, z⟩ := I.cell x c e
    exact ⟨v, cellK x c e v z⟩
  · obtain ⟨m, ⟨o, _, _, ho, _⟩, _⟩ := I.loc
    exact free _ o (fun z => (hch _ z).2.1 rfl) ho I.free
  · obtain ⟨v, o, ho, hd⟩ := I.cell x c e
    exact free c o (fun z => (hch c z).2.2.1 x c e rfl) ho (I.freeC x c e)
  · obtain ⟨e, n, ne, nf, d⟩ := I.pin p hp
    have nch : p.1 ∉ ch := fun z => (hch p.1 z).2.2.2 p hp rfl
    exact ⟨keep p.1 p.2 ne nf nch e n, free p.1 p.2 nch e n, ne, nf, d⟩
theorem Inv.un {t' : Nat} (I : Inv X pins σ H s) (u : Un X.fs [] H H' s.heap h') (hok : HOk X.prog X.w H' h') : Inv X pins σ H' { s with heap := h', toks := t' } := by
  obtain ⟨m, ⟨o, es, ep, ho, r⟩, _⟩ := id I.loc
  obtain ⟨sl, hL⟩ := u.any ho I.free (by simp)
  exact I.step (g' := s.gens) (d' := s.drawn) (ch := []) (fun _ z => nomatch z) (fun b o _ hb _ e n => u.keep b o e n hb (by simp)) (fun b o _ hb _ e n => u.slot b o e n hb (by simp)) (fun b o _ e n => u.free b o e n (by simp)) (fun b o _ e => u.there b o e (by simp)) u.tups u.frzs u.tbls (fun m' hm => by
    obtain ⟨o', es', ep', ho', r'⟩ := hm
    rw [ho] at ho'; cases ho'
    exact ⟨_, es', ep', hL, r'⟩) hok I.bare
theorem Inv.call {g' : Array GenState} {t' : Nat} {d' : Drawn} {ch : List Addr} (I : Inv X pins σ H s) (u : Un (frs X.stack) ch H H' s.heap h') (hok : HOk X.prog X.w H' h') (hg : AllBare g')
    (hch : ∀ b ∈ ch, (b ∈ X.ex ∨ X.s₀.heap.objs.size ≤ b) ∧ b ≠ X.env.locals ∧ (∀ x c, X.env.cells.lookup x = some c → c ≠ b) ∧ ∀ p ∈ X.pn ++ pins, p.1 ≠ b) :
    Inv X pins σ H' { s with heap := h', gens := g', drawn := d', toks := t' } := by
  obtain ⟨m, ⟨o, es, ep, ho, r⟩, _⟩ := id I.loc
  obtain ⟨sl, hL⟩ := u.any ho I.free fun z => (hch _ z).2.1 rfl
  exact I.step (ch := ch) hch (fun b o hL hb hc e n => u.keep b o e n (fun z => (List.mem_cons.mp (I.stkSub b z)).elim hL hb) hc) (fun b o _ _ hc e n => u.any e n hc) (fun b o hc e n => u.free b o e n hc) (fun b o hc e => u.there b o e hc) u.tups u.frzs u.tbls (fun m' hm => by
    obtain ⟨o', es', ep', ho', r'⟩ := hm
    rw [ho] at ho'; cases ho'
    exact ⟨_, es', ep', hL, r'⟩) hok hg
theorem Inv.turned {t' : Nat} {it : Addr} (I : Inv X pins σ H s) (k : ∀ b o, b ≠ it → s.heap.get? b = some o → h'.get? b = some o) (hn : H it = none) (hL : it ≠ X.env.locals)
    (h1 : it ∈ X.ex ∨ X.s₀.heap.objs.size ≤ it) (h2 : ∀ x c, X.env.cells.lookup x = some c → c ≠ it) (h3 : ∀ p ∈ X.pn ++ pins, p.1 ≠ it) : Inv X pins σ H { s with heap := h', toks := t' } := by
  have nit : ∀ b u, H b = some u → b ≠ it := fun b u e z => by rw [z, hn] at e; cases e
  refine I.step (g' := s.gens) (d' := s.drawn) (ch := [it]) (fun b hb => ?_) (fun b o _ _ hc e _ => k b o (fun z => hc (by simp [z])) e) (fun b o _ _ hc e _ => ⟨o.slots, k b o (fun z => hc (by simp [z])) e⟩) (fun _ _ _ _ n => n)
    (fun b o hc e => ⟨o, k b o (fun z => hc (by simp [z])) e⟩) (fun _ _ e => e) (fun _ _ _ e => e) (fun b ps e => ⟨#[], by rw [e]; simp⟩) (fun m hm => ?_) (fun b u e => ?_) I.bare
  · have e : b = it := by simpa using hb
    subst e
    exact ⟨h1, hL, h2, h3⟩
  · obtain ⟨o, es, ep, ho, r⟩ := hm
    exact ⟨o, es, ep, k _ o (Ne.symm hL) ho, r⟩
  · refine (I.hok b u e).stay (fun c v hc q => k c v ?_ q) (fun _ q => q) fun _ _ q => q
    rcases hc with z | z
    · rw [z]; exact nit b u e
    · exact nit c _ z
theorem Inv.tok (I : Inv X pins σ H s) (t : Nat) : Inv X pins σ H { s with toks := t } := I.un (h' := s.heap) (t' := t) Un.refl I.hok
theorem Inv.kept {t' : Nat} (I : Inv X pins σ H s) (k : ∀ b u, s.heap.get? b = some u → h'.get? b = some u) : Inv X pins σ H { s with heap := h', toks := t' } := I.un (Un.kept k) (I.hok.kept k)
theorem Inv.laid {a : Addr} {o : HO} {t' : Nat} (I : Inv X pins σ H s) (k : ∀ b u, s.heap.get? b = some u → h'.get? b = some u) (hp : s.heap.objs.size ≤ a) (new : ObjOk X.prog X.w (upd H a o) h' a o) :
    Inv X pins σ (upd H a o) { s with heap := h', toks := t' } := I.un (Un.laid k hp (I.hok.fresh hp)) (I.hok.laid k hp new)
theorem Inv.write {x e : Addr} {o : HO} {t' : Nat} (I : Inv X pins σ H s) (mu : Mut (H x)) (he : e = x ∨ H e = some (.own x)) (k : ∀ b u, b ≠ e → s.heap.get? b = some u → h'.get? b = some u) (heo : ∃ u, h'.get? e = some u)
    (new : ObjOk X.prog X.w (upd H x o) h' x o) : Inv X pins σ (upd H x o) { s with heap := h', toks := t' } := I.un (Un.write mu he k heo) (I.hok.write mu he k heo new)
theorem Inv.weak {σ' : List (Option V)} (I : Inv X pins σ H s) (hl : σ'.length = σ.length) (w : ∀ (i : Nat) v, σ'[i]? = some (some v) → σ[i]? = some (some v)) : Inv X pins σ' H s :=
  ⟨I.ok, I.os, I.bare, I.base, let ⟨m, hn, hl'⟩ := I.loc; ⟨m, hn, fun i x v e1 e2 e3 => hl' i x v e1 (w i v e2) e3⟩, I.cell, I.free, I.freeC, I.pin, I.hok, hl.trans I.len⟩
theorem Inv.pins_of {pins' : List (Addr × Obj)} (I : Inv X pins σ H s) (h : ∀ p ∈ pins', s.heap.get? p.1 = some p.2 ∧ H p.1 = none ∧ p.1 ≠ X.env.locals ∧ p.1 ∉ X.fs ∧ ∀ v, p.2.data ≠ .cell v) : Inv X pins' σ H s :=
  ⟨I.ok, I.os, I.bare, I.base, I.loc, I.cell, I.free, I.freeC, fun p hp => (List.mem_append.mp hp).elim (fun z => I.pin p (List.mem_append_left _ z)) (h p), I.hok, I.len⟩

theorem nodup_ix {N : List Str} (hN : N.Nodup) {i j : Nat} {x : Str} (a : N[i]? = some x) (b : N[j]? = some x) : i = j := by
  obtain ⟨h1, e1⟩ := List.getElem?_eq_some_iff.mp a
  obtain ⟨h2, e2⟩ := List.getElem?_eq_some_iff.mp b
  exact (List.getElem_inj hN).mp (e1.trans e2.symm)

theorem store_ok2 {M : Model} {A : Around} {E : Value → Shared → Prop} {i : Nat} {x : Str} {v : V} {u : Value} {Q : Unit → Shared → Prop} (I : Inv X pins σ H s) (hN : X.N.Nodup) (hi : X.N[i]? = some x) (hx : Loc X.env.scope x) (r : RelV v u)
    (h : ∀ s', Inv X pins (σ.set i (some v)) H s' → (∃ a, Heap.SameBut a s.heap s'.heap ∧ (a = X.env.locals ∨ X.env.cells.lookup x = some a)) → Q () s') (hf : X.fn x = true ∨ X.env.scope.names.lookup x = some .local := by first | exact .inl rfl | exact .inr rfl | assumption) : wpAny M A (storeName X.env x u) Q E s := by
  obtain ⟨m, hn, hl⟩ := id I.loc
  have hcls : (X.env.scope.kind == .class || (X.env.scope.kind == .module && X.env.locals != X.env.globals)) = false := by rw [I.ok.kind]; rfl
  have hiσ : i < σ.length := by rw [I.len]; exact (List.getElem?_eq_some_iff.mp hi).1
  have cne := I.cne
  have tracked : ∀ {a : Addr} {h' : Heap}, (∃ o, s.heap.get? a = some o ∧ H a = none) → Heap.SameBut a s.heap h' → HOk X.prog X.w H h' := fun {a h'} ha hs b ob e => by
    obtain ⟨_, _, hfree⟩ := ha
    refine (I.hok b ob e).stay (fun c w' hc q => (hs.2 c ?_).trans q) (fun _ q => q) fun _ _ q => q
    rintro rfl
    rcases hc with rfl | hc
    · rw [hfree] at e; cases e
    · rw [hfree] at hc; cases hc
  rcases hx with hk | hk
  · refine wpAny_storeName_local hk hn (fun h' hn' hs => ?_) hcls
    obtain ⟨oL, _, _, hoL, _⟩ := id hn
    refine h _ ⟨I.ok, I.os, I.bare, ⟨fun b o e n hb hx => ?_, fun b o e n hb hx => ?_, I.base.free, fun b o e hx => ?_, I.base.tups, I.base.frzs, I.base.tbls⟩, ⟨_, hn', fun j y v' e1 e2 e3 => ?_⟩, fun y c e => ?_, I.free, I.freeC, fun p hp => ?_, tracked ⟨oL, hoL, I.free⟩ hs, by simpa using I.len⟩ ⟨_, hs, .inl rfl⟩
    · exact (hs.2 b (Nat.ne_of_lt (Nat.lt_of_lt_of_le (Heap.lt_size e) I.ok.above))).trans (I.base.keep b o e n hb hx)
    · obtain ⟨sl, e1⟩ := I.base.slot b o e n hb hx
      exact ⟨sl, (hs.2 b (Nat.ne_of_lt (Nat.lt_of_lt_of_le (Heap.lt_size e) I.ok.above))).trans e1⟩
    · obtain ⟨o', e1⟩ := I.base.there b o e hx
      exact ⟨o', (hs.2 b (Nat.ne_of_lt (Nat.lt_of_lt_of_le (Heap.lt_size e) I.ok.above))).trans e1⟩
    · by_cases hj : j = i
      · subst hj
        rw [hi] at e1; cases e1
        rw [List.getElem?_set_self hiσ] at e2
        cases e2
        exact ⟨u, r, .inl ⟨hk, by simp⟩⟩
      · rw [List.getElem?_set_ne (Ne.symm hj)] at e2
        obtain ⟨u', r', q⟩ := hl j y v' e1 e2 e3
        refine ⟨u', r', ?_⟩
        rcases q with ⟨k, e⟩ | ⟨k, c, e, z⟩
        · refine .inl ⟨k, ?_⟩
          have : y ≠ x := fun e => hj (nodup_ix hN e1 (e ▸ hi))
          simp [this, e]
        · exact .inr ⟨k, c, e, z.sameBut hs (cne y c e)⟩
    · obtain ⟨w', z⟩ := I.cell y c e
      exact ⟨w', z.sameBut hs (cne y c e)⟩
    · obtain ⟨e, n, ne, nf, d⟩ := I.pin p hp
      exact ⟨(hs.2 p.1 ne).trans e, n, ne, nf, d⟩
  · have hfn : X.fn x = true := by
      rcases hf with z | z
      · exact z
      · rw [z] at hk; cases hk
    obtain ⟨c, hc⟩ := I.ok.has x (.inl hk)
    obtain ⟨w', z⟩ := I.cell x c hc
    refine wpAny_storeName_cell I.ok.kind hk hc z (fun h' hc' hs => ?_)
    obtain ⟨oc, hoc, hocd⟩ := id z
    refine h { s with heap := h' } ⟨I.ok, I.os, I.bare, ⟨fun b o e n hb hx => ?_, fun b o e n hb hx => ?_, I.base.free, fun b o e hx => ?_, I.base.tups, I.base.frzs, I.base.tbls⟩, ⟨m, hn.sameBut hs (Ne.symm (cne x c hc)), fun j y v' e1 e2 e3 => ?_⟩, fun y c' e => ?_, I.free, I.freeC, fun p hp => ?_, tracked ⟨oc, hoc, I.freeC x c hc⟩ hs, by simpa using I.len⟩ ⟨c, hs, .inr hc⟩
    · exact (hs.2 b (Nat.ne_of_lt (Nat.lt_of_lt_of_le (Heap.lt_size e) (I.ok.cab x c hfn hc)))).trans (I.base.keep b o e n hb hx)
    · obtain ⟨sl, e1⟩ := I.base.slot b o e n hb hx
      exact ⟨sl, (hs.2 b (Nat.ne_of_lt (Nat.lt_of_lt_of_le (Heap.lt_size e) (I.ok.cab x c hfn hc)))).trans e1⟩
    · obtain ⟨o', e1⟩ := I.base.there b o e hx
      exact ⟨o', (hs.2 b (Nat.ne_of_lt (Nat.lt_of_lt_of_le (Heap.lt_size e) (I.ok.cab x c hfn hc)))).trans e1⟩
    · by_cases hj : j = i
      · subst hj
        rw [hi] at e1; cases e1
        rw [List.getElem?_set_self hiσ] at e2
        cases e2
        exact ⟨u, r, .inr ⟨.inl hk, c, hc, hc'⟩⟩
      · rw [List.getElem?_set_ne (Ne.symm hj)] at e2
        obtain ⟨u', r', q⟩ := hl j y v' e1 e2 e3
        refine ⟨u', r', ?_⟩
        rcases q with q | ⟨k, c', e, z'⟩
        · exact .inl q
        · refine .inr ⟨k, c', e, z'.sameBut hs ?_⟩
          rintro rfl
          exact hj (nodup_ix hN e1 (I.ok.inj _ _ _ e hc ▸ hi))
    · by_cases hcc : c' = c
      · subst hcc; exact ⟨_, hc'⟩
      · obtain ⟨w2, z2⟩ := I.cell y c' e
        exact ⟨w2, z2.sameBut hs hcc⟩
    · obtain ⟨e, n, ne, nf, d⟩ := I.pin p hp
      refine ⟨(hs.2 p.1 ?_).trans e, n, ne, nf, d⟩
      intro q
      rw [q, hoc] at e
      have q' : oc = p.2 := Option.some.inj e
      exact d w' (by rw [← q']; exact hocd)
theorem store_ok {M : Model} {A : Around} {E : Value → Shared → Prop} {i : Nat} {x : Str} {v : V} {u : Value} {Q : Unit → Shared → Prop} (I : Inv X pins σ H s) (hN : X.N.Nodup) (hi : X.N[i]? = some x) (hx : Loc X.env.scope x) (r : RelV v u)
    (h : ∀ s', Inv X pins (σ.set i (some v)) H s' → Q () s') (hf : X.fn x = true ∨ X.env.scope.names.lookup x = some .local := by first | exact .inl rfl | exact .inr rfl | assumption) : wpAny M A (storeName X.env x u) Q E s :=
  store_ok2 I hN hi hx r (fun s' I' _ => h s' I') hf
theorem Inv.call' {s' : Shared} {ch : List Addr} (I : Inv X pins σ H s) (ho : s'.os = s.os) (u : Un (frs X.stack) ch H H' s.heap s'.heap) (hok : HOk X.prog X.w H' s'.heap) (hg : AllBare s'.gens)
    (hch : ∀ b ∈ ch, (b ∈ X.ex ∨ X.s₀.heap.objs.size ≤ b) ∧ b ≠ X.env.locals ∧ (∀ x c, X.env.cells.lookup x = some c → c ≠ b) ∧ ∀ p ∈ X.pn ++ pins, p.1 ≠ b) : Inv X pins σ H' s' := by
  obtain ⟨h', g', d', t', o'⟩ := s'
  have e : o' = s.os := ho
  subst e
  exact I.call (g' := g') (t' := t') (d' := d') u hok hg hch
end

noncomputable abbrev XK := Value → Option Addr → Hp → Prop
noncomputable abbrev St := List (Option V)
noncomputable abbrev VK := V → Hp → Prop
noncomputable abbrev TE := St → Hp → VK → Prop
noncomputable abbrev TT := St → Hp → (Bool → Hp → Prop) → Prop
noncomputable abbrev TA := St → Hp → (List V → Hp → Prop) → Prop
structure Ends where
  nx : St → Hp → Prop
  rt : VK
  bk : St → Hp → Prop := fun _ _ => False
  ct : St → Hp → Prop := fun _ _ => False
noncomputable abbrev TS := Ends → St → Hp → Prop

noncomputable def EP (X : Cx) (pins : List (Addr × Obj)) (σ : St) (Q : VK) (u : Value) (s' : Shared) : Prop := ∃ v H', Inv X pins σ H' s' ∧ RelV v u ∧ Q v H'
noncomputable def TP (X : Cx) (pins : List (Addr × Obj)) (σ : St) (Q : Bool → Hp → Prop) (b : Bool) (s' : Shared) : Prop := ∃ H', Inv X pins σ H' s' ∧ Q b H'
noncomputable def AP (X : Cx) (pins : List (Addr × Obj)) (σ : St) (Q : List V → Hp → Prop) (us : List Value) (s' : Shared) : Prop := ∃ vs H', Inv X pins σ H' s' ∧ Vals vs us ∧ Q vs H'
noncomputable def SP (X : Cx) (pins : List (Addr × Obj)) (D : Ends) (f : Flow) (s' : Shared) : Prop :=
  match f with
  | .next => ∃ σ' H', Inv X pins σ' H' s' ∧ D.nx σ' H'
  | .brk => ∃ σ' H', Inv X pins σ' H' s' ∧ D.bk σ' H'
  | .cont => ∃ σ' H', Inv X pins σ' H' s' ∧ D.ct σ' H'
  | .ret u => ∃ v σ' H', Inv X pins σ' H' s' ∧ RelV v u ∧ D.rt v H'

noncomputable def PE (X : Cx) (e : Expr) (t : TE) : Prop :=
  ∀ (pins : List (Addr × Obj)) (s : Shared) (σ : St) (H : Hp) (Q : VK), Inv X pins σ H s → t σ H Q → wpAny (model X.prog X.w) X.A (eval e X.env) (EP X pins σ Q) X.xe s
noncomputable def PT (X : Cx) (e : Expr) (t : TT) : Prop :=
  ∀ (pins : List (Addr × Obj)) (s : Shared) (σ : St) (H : Hp) (Q : Bool → Hp → Prop), Inv X pins σ H s → t σ H Q → wpAny (model X.prog X.w) X.A (isTrue e X.env (eval e X.env)) (TP X pins σ Q) X.xe s
noncomputable def PW (X : Cx) (e : Expr) (t : TT) : Prop :=
  ∀ (whole : Sem Value) (pins : List (Addr × Obj)) (s : Shared) (σ : St) (H : Hp) (Q : Bool → Hp → Prop), Inv X pins σ H s → t σ H Q → wpAny (model X.prog X.w) X.A (isTrue e X.env whole) (TP X pins σ Q) X.xe s
theorem PW.pt {X : Cx} {e : Expr} {t : TT} (h : PW X e t) : PT X e t := h _
noncomputable def PA (X : Cx) (es : List Expr) (t : TA) : Prop :=
  ∀ (pos : Pos) (pins : List (Addr × Obj)) (s : Shared) (σ : St) (H : Hp) (Q : List V → Hp → Prop), Inv X pins σ H s → t σ H Q → wpAny (model X.prog X.w) X.A (spliced (backTo pos (starEach es X.env))) (AP X pins σ Q) X.xe s
noncomputable def PS (X : Cx) (st : Stmt) (t : TS) : Prop :=
  ∀ (pins : List (Addr × Obj)) (s : Shared) (σ : St) (H : Hp) (D : Ends), Inv X pins σ H s → t D σ H → wpAny (model X.prog X.w) X.A (exec st X.env) (SP X pins D) X.xe s
noncomputable def PSs (X : Cx) (st : List Stmt) (t : TS) : Prop :=
  ∀ (pins : List (Addr × Obj)) (s : Shared) (σ : St) (H : Hp) (D : Ends), Inv X pins σ H s → t D σ H → wpAny (model X.prog X.w) X.A (execs st X.env) (SP X pins D) X.xe s
theorem thn {α : Type} {t : Sem α} {Q Q' : α → Shared → Prop} {M : Model} {A : Around} {E : Value → Shared → Prop} {s : Shared} (h : wpAny M A t Q E s) (hQ : ∀ a s, Q a s → Q' a s) : wpAny M A t Q' E s := wpAny_mono h hQ fun _ _ x => x
end L2

namespace L2
open PySem PySem.Spec PyProof.Rows
section
variable {X : Cx}

noncomputable def tVar (i : Nat) : TE := fun σ H Q => ∃ v, σ[i]? = some (some v) ∧ Q v H
noncomputable def tC (v : V) : TE := fun _ H Q => Q v H
theorem pe_var {i : Nat} {x : Str} {pos : Pos} (hN : X.N[i]? = some x) (hv : Vis X.env.scope x) (hd : (x == ("__debug__" : Str)) = false := by decide) (hcd : (x == ("__classdict__" : Str)) = false := by decide) : PE X (.Name x pos) (tVar i) := by
  intro pins s σ H Q I h
  obtain ⟨v, e, h⟩ := h
  obtain ⟨m, hn, hl⟩ := I.loc
  obtain ⟨u, r, l⟩ := hl i x v hN e hv
  have fin : EP X pins σ Q u s := ⟨v, H, I, r, h⟩
  rcases l with ⟨hk, hm⟩ | ⟨hk, c, hc, hcell⟩
  · exact wpAny_Name (wpAny_loadName_local I.ok.kind hk hn hm fin) hd
  · rcases hk with hk | hk
    · exact wpAny_Name (wpAny_loadName_cell I.ok.kind hk hc hcell fin) hd
    · exact wpAny_Name (wpAny_loadName_free I.ok.kind hk hc hcell fin hcd) hd
theorem pe_int {i j pos} : PE X (.Constant (.int i) j pos) (tC (.int i)) := fun _ _ _ H _ I h => wpAny_Constant_int ⟨.int i, H, I.tok _, ⟨_, rfl⟩, h⟩
theorem pe_bl {b j pos} : PE X (.Constant (.bool b) j pos) (tC (.bl b)) := fun _ _ _ H _ I h => Constant_bool ⟨.bl b, H, I, rfl, h⟩
theorem pe_str {x j pos} : PE X (.Constant (.str x) j pos) (tC (.str x)) := fun _ _ _ H _ I h => Calls.Constant_str ⟨.str x, H, I.tok _, ⟨_, rfl⟩, h⟩

noncomputable def Gl (X : Cx) (x : Str) : Prop := X.env.kindOf x = some .globalImplicit
theorem ld_glob {E : Value → Shared → Prop} {pins : List (Addr × Obj)} {s : Shared} {σ : St} {H : Hp} {x : Str} {u : Value} {pos : Pos} {Q : Value → Shared → Prop} (I : Inv X pins σ H s) (hg : Gl X x) (hm : X.mg x = some u) (h : Q u s)
    (hd : (x == ("__debug__" : Str)) = false := by decide) : wpAny (model X.prog X.w) X.A (eval (.Name x pos) X.env) Q E s :=
  Calls.Name_function_global I.ok.kind hg (Calls.loadGlobal_global (by rw [I.ok.glob]; exact I.mod.glob.keeps I.bk) hm h) hd
theorem ld_blt {E : Value → Shared → Prop} {pins : List (Addr × Obj)} {s : Shared} {σ : St} {H : Hp} {x : Str} {u : Value} {pos : Pos} {Q : Value → Shared → Prop} (I : Inv X pins σ H s) (hg : Gl X x) (hm : X.mg x = none) (hv : bootBuiltins x = some u) (h : Q u s)
    (hn : x ≠ "__name__" := by decide) (hd : (x == ("__debug__" : Str)) = false := by decide) : wpAny (model X.prog X.w) X.A (eval (.Name x pos) X.env) Q E s := by
  obtain ⟨mb, h1, h2⟩ := I.mod.blt
  exact Calls.Name_function_global I.ok.kind hg (Calls.loadGlobal_builtin (by rw [I.ok.glob]; exact I.mod.glob.keeps I.bk) hm (by rw [I.ok.blt]; exact h1.keeps I.bk) ((h2 x hn).trans hv) h) hd
theorem pe_glob {x : Str} {v : V} {u : Value} {pos : Pos} (hg : Gl X x) (hm : X.mg x = some u) (r : RelV v u) (hd : (x == ("__debug__" : Str)) = false := by decide) : PE X (.Name x pos) (tC v) :=
  fun _ _ _ H _ I h => ld_glob I hg hm ⟨v, H, I, r, h⟩ hd
variable {a b : Expr} {ta tb : TE} {pos : Pos}
noncomputable def PC (X : Cx) (op : CmpOp) (a b : Expr) (t : TE) : Prop :=
  ∀ (pins : List (Addr × Obj)) (s : Shared) (σ : St) (H : Hp) (Q : VK), Inv X pins σ H s → t σ H Q →
    wpAny (model X.prog X.w) X.A (eval a X.env) (fun v s₁ => wpAny (model X.prog X.w) X.A (eval b X.env) (fun u s₂ => wpAny (model X.prog X.w) X.A (compareOp op v u) (EP X pins σ Q) X.xe s₂) X.xe s₁) X.xe s
theorem nobehind (b : Expr) {op : CmpOp} (h : op ≠ .In) (h2 : op ≠ .NotIn) : behindInMarks op b = false := by
  have e1 : (op == CmpOp.In) = false := by cases op <;> first | rfl | exact absurd rfl h
  have e2 : (op == CmpOp.NotIn) = false := by cases op <;> first | rfl | exact absurd rfl h2
  cases b <;> simp [behindInMarks, e1, e2]
noncomputable def tB (t : TE) : TT := fun σ H Q => t σ H fun x H1 => ∃ c, x = .bl c ∧ Q c H1
theorem pt_cmp {op : CmpOp} {t : TE} (h : PC X op a b t) (h1 : behindInMarks op b = false := by first | exact nobehind _ (by decide) (by decide) | rfl) : PT X (.Compare a [op] [b] pos) (tB t) := by
  intro pins s σ H Q I hw
  refine wpAny_isTrue_Compare1 (thn (h pins s σ H _ I hw) fun v s1 h1 => thn h1 fun u s2 h2 => thn h2 fun c s3 ⟨x, H1, I1, r1, q1⟩ => ?_) h1
  obtain ⟨d, rfl, q⟩ := q1
  cases r1
  exact wpAny_truthy_bool ⟨H1, I1, q⟩
theorem pt_val {e : Expr} {t : TE} (h : PE X e t) (he : ∀ whole, isTrue e X.env whole = (do let v ← whole; standAt e.pos; holding [v] (truthy v)) := by intro _; rfl) : PT X e (tB t) := by
  intro pins s σ H Q I hw
  refine isTrue_plain (thn (h pins s σ H _ I hw) fun v s1 ⟨x, H1, I1, r1, q1⟩ => ?_) (he _)
  obtain ⟨d, rfl, q⟩ := q1
  cases r1
  exact wpAny_truthy_bool ⟨H1, I1, q⟩

variable {tA tB' : TT} {rest : List Expr}
noncomputable def tAnd (t u : TT) : TT := fun σ H Q => t σ H fun c H1 => if c = true then u σ H1 Q else Q false H1
noncomputable def tOr (t u : TT) : TT := fun σ H Q => t σ H fun c H1 => if c = true then Q true H1 else u σ H1 Q
noncomputable def tNot (t : TT) : TT := fun σ H Q => t σ H fun c H1 => Q (!c) H1
theorem pw_and1 (ha : PT X a tA) : PW X (.BoolOp .And [a] pos) tA := by
  intro wh pins s σ H Q I h
  refine isTrue_and (thn (ha pins s σ H Q I h) fun c s1 e => ?_)
  cases c with
  | true => exact isTrue_and_nil e
  | false => exact e
theorem pw_or1 (ha : PT X a tA) : PW X (.BoolOp .Or [a] pos) tA := by
  intro wh pins s σ H Q I h
  refine isTrue_or (thn (ha pins s σ H Q I h) fun c s1 e => ?_)
  cases c with
  | false => exact isTrue_or_nil e
  | true => exact e
theorem pw_and (ha : PT X a tA) (hb : PW X (.BoolOp .And (b :: rest) pos) tB') : PW X (.BoolOp .And (a :: b :: rest) pos) (tAnd tA tB') := by
  intro wh pins s σ H Q I h
  refine isTrue_and (thn (ha pins s σ H _ I h) fun c s1 ⟨H1, I1, q1⟩ => ?_)
  cases c with
  | true => exact hb wh pins s1 σ H1 Q I1 q1
  | false => exact ⟨H1, I1, q1⟩
theorem pw_or (ha : PT X a tA) (hb : PW X (.BoolOp .Or (b :: rest) pos) tB') : PW X (.BoolOp .Or (a :: b :: rest) pos) (tOr tA tB') := by
  intro wh pins s σ H Q I h
  refine isTrue_or (thn (ha pins s σ H _ I h) fun c s1 ⟨H1, I1, q1⟩ => ?_)
  cases c with
  | true => exact ⟨H1, I1, q1⟩
  | false => exact hb wh pins s1 σ H1 Q I1 q1
theorem pt_not (ha : PT X a tA) : PT X (.UnaryOp .Not a pos) (tNot tA) := by
  intro pins s σ H Q I h
  exact isTrue_not (ha pins s σ H (fun c H1 => Q (!c) H1) I h)
noncomputable def tIf (t : TT) (ta tb : TE) : TE := fun σ H Q => t σ H fun c H1 => if c = true then ta σ H1 Q else tb σ H1 Q
theorem pe_ifExp {c : Expr} (hc : PT X c tA) (ha : PE X a ta) (hb : PE X b tb) : PE X (.IfExp c a b pos) (tIf tA ta tb) := by
  intro pins s σ H Q I h
  refine wpAny_IfExp (thn (hc pins s σ H _ I h) fun d s1 ⟨H1, I1, q1⟩ => ?_)
  cases d with
  | true => exact ha pins s1 σ H1 Q I1 q1
  | false => exact hb pins s1 σ H1 Q I1 q1
end
end L2

namespace L2
open PySem PySem.Spec PyProof.Rows

noncomputable def SqL (K : PySem.W.Frag) (H : Hp) (a : Addr) (xs : List V) : Prop :=
  Rd H a (.lst xs) ∨
    ∃ (o : Obj) (its : Array Value) (n : Nat), K.lookup a = some o ∧ o.cls = .type "list" ∧ o.dict = none ∧ o.data = .seq its n ∧ its.size ≤ sizeLine ∧ Vals xs its.toList
noncomputable def SqT (K : PySem.W.Frag) (H : Hp) (a : Addr) (xs : List V) : Prop :=
  Rd H a (.tup xs) ∨
    ∃ (o : Obj) (its : Array Value) (n : Nat), K.lookup a = some o ∧ o.cls = .type "tuple" ∧ o.data = .seq its n ∧ its.size ≤ sizeLine ∧ Vals xs its.toList
noncomputable def absV : Value → Option V
  | .none => some .non
  | .bool b => some (.bl b)
  | .int i _ => some (.int i)
  | .str x _ => some (.str x)
  | .bytes b _ => some (.byt b)
  | .float b _ => some (.flt b)
  | .ref a => some (.ref a)
  | .type n => some (.ty n)
  | _ => none
theorem RelV.abs {x : V} {u : Value} (r : RelV x u) : absV u = some x := by
  cases x with
  | non => cases r; rfl
  | bl _ => cases r; rfl
  | int _ => obtain ⟨t, rfl⟩ := r; rfl
  | str _ => obtain ⟨t, rfl⟩ := r; rfl
  | byt _ => obtain ⟨t, rfl⟩ := r; rfl
  | flt _ => obtain ⟨t, rfl⟩ := r; rfl
  | ref _ => cases r; rfl
  | ty _ => cases r; rfl
theorem RelV.inj {x y : V} {u : Value} (r : RelV x u) (q : RelV y u) : x = y := Option.some.inj (r.abs.symm.trans q.abs)
theorem Vals.inj : ∀ {xs ys : List V} {us : List Value}, Vals xs us → Vals ys us → xs = ys
  | _, _, _, .nil, .nil => rfl
  | _, _, _, .cons r t, .cons r' t' => by rw [r.inj r', Vals.inj t t']
section
variable {X : Cx} {pins : List (Addr × Obj)} {σ : St} {H : Hp} {s : Shared} {a : Addr} {xs ys : List V}
theorem SqL.of {K : PySem.W.Frag} (h : H a = some (.lst xs)) : SqL K H a xs := .inl (.inl h)
theorem SqT.of {K : PySem.W.Frag} (h : H a = some (.tup xs)) : SqT K H a xs := .inl (.inl h)
theorem Inv.list (I : Inv X pins σ H s) (h : SqL X.K H a xs) : ∃ its : List Value, Vals xs its ∧ PlainL s.heap a its.toArray ∧ xs.length ≤ sizeLine := by
  rcases h with h | ⟨o, its, n, hk, hc, hd, hs, hz, r⟩
  · obtain ⟨z, its, n, r, e⟩ := h.ok I.hok
    exact ⟨its, r, ⟨_, n, e, rfl, rfl, rfl⟩, z⟩
  · refine ⟨its.toList, r, ⟨o, n, I.kIn a o hk, hc, hd, by simpa using hs⟩, ?_⟩
    have e := r.length
    simp only [Array.length_toList] at e
    omega
theorem Inv.tuple (I : Inv X pins σ H s) (h : SqT X.K H a xs) : ∃ its : List Value, Vals xs its ∧ IsTup s.heap a its.toArray ∧ xs.length ≤ sizeLine := by
  rcases h with h | ⟨o, its, n, hk, hc, hs, hz, r⟩
  · obtain ⟨z, its, r, p⟩ := h.ok I.hok
    exact ⟨its, r, p, z⟩
  · refine ⟨its.toList, r, ⟨o, I.kIn a o hk, hc, n, by simpa using hs⟩, ?_⟩
    have e := r.length
    simp only [Array.length_toList] at e
    omega
theorem Inv.list_inj (I : Inv X pins σ H s) (h : SqL X.K H a xs) (h' : SqL X.K H a ys) : xs = ys := by
  obtain ⟨its, r, ⟨o, n, e, _, _, d⟩, _⟩ := I.list h
  obtain ⟨its', r', ⟨o', n', e', _, _, d'⟩, _⟩ := I.list h'
  rw [e] at e'; cases e'
  rw [d] at d'
  injection d' with d1 _
  have : its = its' := by simpa using congrArg Array.toList d1
  subst this
  exact r.inj r'
theorem Inv.tuple_inj (I : Inv X pins σ H s) (h : SqT X.K H a xs) (h' : SqT X.K H a ys) : xs = ys := by
  obtain ⟨its, r, ⟨o, e, _, n, d⟩, _⟩ := I.tuple h
  obtain ⟨its', r', ⟨o', e', _, n', d'⟩, _⟩ := I.tuple h'
  rw [e] at e'; cases e'
  rw [d] at d'
  injection d' with d1 _
  have : its = its' := by simpa using congrArg Array.toList d1
  subst this
  exact r.inj r'
end

noncomputable abbrev Cx.wish (X : Cx) (E : Value → Shared → Prop) : Cx := { X with xe := E }
noncomputable abbrev Cx.nox (X : Cx) : Cx := X.wish fun _ _ => False
theorem Cx.Ok.wish {X : Cx} (ok : X.Ok) (E : Value → Shared → Prop) : (X.wish E).Ok :=
  ⟨ok.mod, ok.kind, ok.glob, ok.blt, ok.above, ok.inj, ok.has, ok.cab, ok.hd, ok.frames, ok.stk, ok.exf, ok.bs, ok.bsz, ok.noex, ok.exfs, ok.funs, ok.frf⟩
theorem Cx.Ok.unwish {X : Cx} {E : Value → Shared → Prop} (ok : (X.wish E).Ok) : X.Ok :=
  ⟨ok.mod, ok.kind, ok.glob, ok.blt, ok.above, ok.inj, ok.has, ok.cab, ok.hd, ok.frames, ok.stk, ok.exf, ok.bs, ok.bsz, ok.noex, ok.exfs, ok.funs, ok.frf⟩
section
variable {X : Cx} {pins : List (Addr × Obj)} {σ : St} {H : Hp} {s : Shared} {E : Value → Shared → Prop}
theorem Inv.wish (I : Inv X pins σ H s) (E : Value → Shared → Prop) : Inv (X.wish E) pins σ H s := ⟨I.ok.wish E, I.os, I.bare, I.base, I.loc, I.cell, I.free, I.freeC, I.pin, I.hok, I.len⟩
theorem Inv.unwish (I : Inv (X.wish E) pins σ H s) : Inv X pins σ H s := ⟨I.ok.unwish, I.os, I.bare, I.base, I.loc, I.cell, I.free, I.freeC, I.pin, I.hok, I.len⟩
theorem SP.unwish {D : Ends} {f : Flow} {s' : Shared} (h : SP (X.wish E) pins D f s') : SP X pins D f s' := by
  cases f with
  | next => obtain ⟨σ', H', I, q⟩ := h; exact ⟨σ', H', I.unwish, q⟩
  | brk => obtain ⟨σ', H', I, q⟩ := h; exact ⟨σ', H', I.unwish, q⟩
  | cont => obtain ⟨σ', H', I, q⟩ := h; exact ⟨σ', H', I.unwish, q⟩
  | ret u => obtain ⟨v, σ', H', I, r, q⟩ := h; exact ⟨v, σ', H', I.unwish, r, q⟩
theorem PE.nox {e : Expr} {t : TE} (h : PE X.nox e t) : PE X e t := fun pins s σ H Q I hw =>
  wpAny_mono (h pins s σ H Q (I.wish _) hw) (fun _ _ ⟨v, H', I', r, q⟩ => ⟨v, H', I'.unwish, r, q⟩) fun _ _ z => False.elim z
theorem PT.nox {e : Expr} {t : TT} (h : PT X.nox e t) : PT X e t := fun pins s σ H Q I hw =>
  wpAny_mono (h pins s σ H Q (I.wish _) hw) (fun _ _ ⟨H', I', q⟩ => ⟨H', I'.unwish, q⟩) fun _ _ z => False.elim z
theorem PSs.nox {st : List Stmt} {t : TS} (h : PSs X.nox st t) : PSs X st t := fun pins s σ H D I hw =>
  wpAny_mono (h pins s σ H D (I.wish _) hw) (fun _ _ q => q.unwish) fun _ _ z => False.elim z
end

section
variable {X : Cx} {st : Stmt} {rest : List Stmt} {t u : TS} {e : Expr} {te : TE} {pos : Pos}
noncomputable def tNext : TS := fun D σ H => D.nx σ H
noncomputable def tSeq (t u : TS) : TS := fun D σ H => t { D with nx := u D } σ H
theorem pss_nil : PSs X [] tNext := fun _ _ σ H _ I h => wpAny_execs_nil ⟨σ, H, I, h⟩
theorem pss_cons (h1 : PS X st t) (h2 : PSs X rest u) : PSs X (st :: rest) (tSeq t u) := by
  intro pins s σ H D I h
  refine wpAny_execs_cons (thn (h1 pins s σ H { D with nx := u D } I h) fun f s1 q => ?_)
  cases f with
  | next =>
    obtain ⟨σ', H', I', q⟩ := q
    exact h2 pins s1 σ' H' D I' q
  | ret v => exact q
  | brk => exact q
  | cont => exact q
theorem pss_one (h1 : PS X st t) : PSs X [st] t := by
  intro pins s σ H D I h
  refine wpAny_execs_cons (thn (h1 pins s σ H D I h) fun f s1 q => ?_)
  cases f with
  | next => exact wpAny_execs_nil q
  | ret v => exact q
  | brk => exact q
  | cont => exact q
theorem Inv.quiet {pins : List (Addr × Obj)} {σ : St} {H : Hp} {s : Shared} (I : Inv X pins σ H s) : interactive X.env = false := by simp [interactive, I.ok.kind]
noncomputable def tDrop (te : TE) : TS := fun D σ H => te σ H fun _ H1 => D.nx σ H1
theorem ps_expr (he : PE X e te) (hs : swapsWith e none pos.line X.env = pure false := by rfl) : PS X (.Expr e pos) (tDrop te) := by
  intro pins s σ H D I h
  exact wpAny_Expr_any (thn (he pins s σ H _ I h) fun v s1 ⟨x, H1, I1, r1, q1⟩ => ⟨σ, H1, I1, q1⟩) I.quiet hs
noncomputable def tRet (te : TE) : TS := fun D σ H => te σ H D.rt
theorem ps_ret (he : PE X e te) : PS X (.Return (some e) pos) (tRet te) := by
  intro pins s σ H D I h
  exact wpAny_Return_some (thn (he pins s σ H _ I h) fun v s1 ⟨x, H1, I1, r1, q1⟩ => ⟨x, σ, H1, I1, r1, q1⟩)
noncomputable def tIfS (c : TT) (t u : TS) : TS := fun D σ H => c σ H fun b H1 => if b = true then t D σ H1 else u D σ H1
theorem ps_if {c : Expr} {a b : List Stmt} {tc : TT} (hc : PT X c tc) (ha : PSs X a t) (hb : PSs X b u) : PS X (.If c a b pos) (tIfS tc t u) := by
  intro pins s σ H D I h
  refine wpAny_If (thn (hc pins s σ H _ I h) fun d s1 ⟨H1, I1, q1⟩ => ?_)
  cases d with
  | true => exact ha pins s1 σ H1 D I1 q1
  | false => exact hb pins s1 σ H1 D I1 q1
noncomputable def tNever : TS := fun _ _ _ => False
theorem ps_never : PS X st tNever := fun _ _ _ _ _ _ h => h.elim
end

noncomputable abbrev TG := V → St → Hp → (St → Hp → Prop) → Prop
noncomputable abbrev TGs := List V → St → Hp → (St → Hp → Prop) → Prop
noncomputable def PG (X : Cx) (target : Expr) (t : TG) : Prop :=
  ∀ (pins : List (Addr × Obj)) (s : Shared) (σ : St) (H : Hp) (v : V) (u : Value) (Q : St → Hp → Prop), Inv X pins σ H s → RelV v u → t v σ H Q →
    wpAny (model X.prog X.w) X.A (assign target X.env u) (fun _ s' => ∃ σ' H', Inv X pins σ' H' s' ∧ Q σ' H') X.xe s
noncomputable def PGs (X : Cx) (ts : List Expr) (t : TGs) : Prop :=
  ∀ (pins : List (Addr × Obj)) (s : Shared) (σ : St) (H : Hp) (vs : List V) (us : List Value) (Q : St → Hp → Prop), Inv X pins σ H s → Vals vs us → t vs σ H Q →
    wpAny (model X.prog X.w) X.A (assignInOrder ((assignEach ts X.env).map (·.2)) us) (fun _ s' => ∃ σ' H', Inv X pins σ' H' s' ∧ Q σ' H') X.xe s
noncomputable abbrev TSet := V → V → V → Hp → (Hp → Prop) → Prop
noncomputable def PSet (X : Cx) (t : TSet) : Prop :=
  ∀ (pins : List (Addr × Obj)) (s : Shared) (σ : St) (H : Hp) (o i v : V) (ov iv u : Value) (Q : Hp → Prop), Inv X pins σ H s → RelV o ov → RelV i iv → RelV v u → t o i v H Q →
    wpAny (model X.prog X.w) X.A (setItem ov iv u) (fun _ s' => ∃ H', Inv X pins σ H' s' ∧ Q H') X.xe s
section
variable {X : Cx} {pos : Pos}
noncomputable def gName (i : Nat) : TG := fun v σ H Q => Q (σ.set i (some v)) H
theorem pg_name {i : Nat} {x : Str} (hN : X.N.Nodup) (hi : X.N[i]? = some x) (hx : Loc X.env.scope x) (hf : X.fn x = true ∨ X.env.scope.names.lookup x = some .local := by first | exact .inl rfl | exact .inr rfl | assumption) : PG X (.Name x pos) (gName i) := by
  intro pins s σ H v u Q I r h
  exact wpAny_assign_Name (store_ok I hN hi hx r (fun s' I' => ⟨_, H, I', h⟩) hf)
noncomputable def gNil : TGs := fun vs σ H Q => vs = [] ∧ Q σ H
noncomputable def gCons (t : TG) (u : TGs) : TGs := fun vs σ H Q => ∃ v r, vs = v :: r ∧ t v σ H fun σ' H' => u r σ' H' Q
theorem pgs_nil : PGs X [] gNil := by
  intro pins s σ H vs us Q I r h
  obtain ⟨e, h⟩ := h
  subst e
  cases r
  exact assignInOrder_nil ⟨σ, H, I, h⟩
theorem pgs_cons {e : Expr} {es : List Expr} {t : TG} {u : TGs} (h1 : PG X e t) (h2 : PGs X es u)
    (hs : (assignEach (e :: es) X.env).map (·.2) = assign e X.env :: (assignEach es X.env).map (·.2) := by rfl) : PGs X (e :: es) (gCons t u) := by
  intro pins s σ H vs us Q I r h
  obtain ⟨v, vr, e1, h⟩ := h
  subst e1
  cases r with
  | cons r rr =>
    rw [hs]
    refine assignInOrder_cons (thn (h1 pins s σ H _ _ _ I r h) fun _ s1 ⟨σ1, H1, I1, q1⟩ => ?_)
    exact h2 pins s1 σ1 H1 _ _ Q I1 rr q1
noncomputable def gTup (K : PySem.W.Frag) (n : Nat) (t : TGs) : TG := fun v σ H Q => ∃ a xs, v = .ref a ∧ SqT K H a xs ∧ xs.length = n ∧ t xs σ H Q
theorem pg_tup {es : List Expr} {k : Nat} {t : TGs} {n : Nat} (hc : X.calm = true) (h : PGs X es t)
    (hn : (assignEach es X.env).length = n := by rfl) (hst : (assignEach es X.env).findIdx? (·.1) = none := by rfl) : PG X (.Tuple es k pos) (gTup X.K n t) := by
  intro pins s σ H v u Q I r hw
  obtain ⟨a, xs, e1, hq, hl, hw⟩ := hw
  subst e1
  cases r
  obtain ⟨its, rv, ht, hz⟩ := I.tuple hq
  refine assign_Tuple_tuple (I.ok.hd hc) ht (by simp [hn, ← hl, rv.length]) hst fun h' hx => ?_
  have I1 : Inv X pins σ H { s with heap := h' } := I.kept (t' := s.toks) fun b o e => hx b o (Nat.ne_of_lt (Heap.lt_size e)) e
  exact h pins _ σ H xs _ Q I1 (by simpa using rv) hw
noncomputable def gSub (to ti : TE) (t : TSet) : TG := fun v σ H Q => to σ H fun o H1 => ti σ H1 fun i H2 => t o i v H2 fun H3 => Q σ H3
theorem pg_sub {o i : Expr} {to ti : TE} {t : TSet} (ho : PE X o to) (hi : PE X i ti) (hs : PSet X t)
    (ha : ∀ v, assign (.Subscript o i pos) X.env v = (do
      let ov ← holding [v] (eval o X.env)
      let iv ← holding [v, ov] (eval i X.env)
      standAt pos
      holding [v, ov, iv] (setItem ov iv v)
      release [v, ov, iv] []) := by intro _; rfl) : PG X (.Subscript o i pos) (gSub to ti t) := by
  intro pins s σ H v u Q I r h
  rw [ha]
  refine wpAny_bind (wpAny_holding (thn (ho pins s σ H _ I h) fun ov s1 ⟨x, H1, I1, r1, q1⟩ => ?_))
  refine wpAny_bind (wpAny_holding (thn (hi pins s1 σ H1 _ I1 q1) fun iv s2 ⟨y, H2, I2, r2, q2⟩ => ?_))
  refine wpAny_bind (wpAny_standAt (wpAny_bind (wpAny_holding (thn (hs pins s2 σ H2 x y v ov iv u _ I2 r1 r2 r q2) fun _ s3 ⟨H3, I3, q3⟩ => ?_))))
  exact wpAny_release ⟨σ, H3, I3, q3⟩
noncomputable def tAsg (te : TE) (g : TG) : TS := fun D σ H => te σ H fun x H1 => g x σ H1 D.nx
theorem ps_asg {tg e : Expr} {te : TE} {g : TG} (he : PE X e te) (hg : PG X tg g) (hs : swapsWithSole [tg] e pos.line X.env = pure false := by rfl) (hw : swappedStores [tg] e X.env = pure none := by rfl)
    (h1 : (assignEach [tg] X.env).map (·.2) = [assign tg X.env] := by rfl) : PS X (.Assign [tg] e pos) (tAsg te g) := by
  intro pins s σ H D I h
  refine wpAny_Assign_stores (thn (he pins s σ H _ I h) fun v s1 ⟨x, H1, I1, r1, q1⟩ => ?_) hs hw
  rw [h1]
  exact thn (hg pins s1 σ H1 x v _ I1 r1 q1) fun _ s2 q => q
theorem ps_set {i : Nat} {x : Str} {e : Expr} {te : TE} {pos' : Pos} (hN : X.N.Nodup) (hi : X.N[i]? = some x) (hx : Loc X.env.scope x) (he : PE X e te) (hs : swapsWith e (some (.Name x pos')) pos.line X.env = pure false := by rfl) (hf : X.fn x = true ∨ X.env.scope.names.lookup x = some .local := by first | exact .inl rfl | exact .inr rfl | assumption) :
    PS X (.Assign [.Name x pos'] e pos) (tAsg te (gName i)) := by
  intro pins s σ H D I h
  refine wpAny_Assign_Name (thn (he pins s σ H _ I h) fun v s1 ⟨y, H1, I1, r1, q1⟩ => ?_) hs
  exact store_ok I1 hN hi hx r1 (fun s2 I2 => ⟨_, H1, I2, q1⟩) hf
end

section
variable {X : Cx} {pos : Pos}
end

structure It where
  go : Nat → Hp → Prop
  yld : Nat → Hp → V → Hp → Prop
  stop : Nat → Hp → Prop
noncomputable def FpOk (X : Cx) (pins : List (Addr × Obj)) (H : Hp) (b : Addr) : Prop :=
  H b = none ∧ b ≠ X.env.locals ∧ b ∉ X.fs ∧ (b ∈ X.ex ∨ X.s₀.heap.objs.size ≤ b) ∧ (∀ x c, X.env.cells.lookup x = some c → c ≠ b) ∧ ∀ p ∈ X.pn ++ pins, p.1 ≠ b
theorem Inv.fpOk {X : Cx} {pins : List (Addr × Obj)} {σ : St} {H H' : Hp} {s : Shared} {b : Addr} (I : Inv X pins σ H s) (hb : s.heap.objs.size ≤ b) (hn : H' b = none) : FpOk X pins H' b := by
  refine ⟨hn, Nat.ne_of_gt (Nat.lt_of_lt_of_le I.lt hb), I.nofs hb, .inr (Nat.le_trans I.sz hb), fun x c e z => ?_, fun p hp z => ?_⟩
  · obtain ⟨v, q⟩ := I.cell x c e
    exact absurd (Nat.lt_of_lt_of_le q.lt (by rw [z]; exact hb)) (Nat.lt_irrefl _)
  · exact absurd (Nat.lt_of_lt_of_le (Heap.lt_size (I.pin p hp).1) (by rw [z]; exact hb)) (Nat.lt_irrefl _)
structure Turn (P : Program) (w : World) (K : PySem.W.Frag) (tg : Expr) (J : It) (fp : List Addr) (it : Addr) (tn : Nat → Heap → Prop) : Prop where
  mem : it ∈ fp
  obj : ∀ i h, tn i h → ∀ b ∈ fp, ∃ o, h.get? b = some o ∧ ∀ v, o.data ≠ .cell v
  keep : ∀ i h h', tn i h → (∀ b ∈ fp, ∀ o, h.get? b = some o → h'.get? b = some o) → tn i h'
  item : ∀ (X : Cx), X.prog = P → X.w = w → X.K = K → X.calm = true → ∀ (i : Nat) (pins : List (Addr × Obj)) (s : Shared) (σ : St) (H : Hp) (E : Value → Shared → Prop), Inv X pins σ H s → (∀ b ∈ fp, FpOk X pins H b) → tn i s.heap → J.go i H →
    wpAny (model P w) X.A (pyNext (.ref it)) (fun r s1 => ∃ u, r = some u ∧
      wpAny (model P w) X.A (letOwnedTupleGo tg (.ref it) u) (fun _ s2 => ∃ x H', Inv X pins σ H' s2 ∧ RelV x u ∧ J.yld i H x H' ∧ tn (i + 1) s2.heap ∧ ∀ b ∈ fp, H' b = none) E s1) E s
  done : ∀ (X : Cx), X.prog = P → X.w = w → X.K = K → X.calm = true → ∀ (i : Nat) (pins : List (Addr × Obj)) (s : Shared) (σ : St) (H : Hp) (E : Value → Shared → Prop), Inv X pins σ H s → (∀ b ∈ fp, FpOk X pins H b) → tn i s.heap → J.stop i H →
    wpAny (model P w) X.A (pyNext (.ref it)) (fun r s1 => r = none ∧ Inv X pins σ H s1) E s
  self : ∀ (A : Around) (i : Nat) (s : Shared) (Q : Value → Shared → Prop) (E : Value → Shared → Prop), tn i s.heap → Q (.ref it) s → wpAny (model P w) A (pyIter (.ref it)) Q E s
noncomputable abbrev TI := St → Hp → (It → Hp → Prop) → Prop
noncomputable def PIE (X : Cx) (pins : List (Addr × Obj)) (σ : St) (tg : Expr) (R : It → Hp → Prop) (itv : Value) (s2 : Shared) : Prop :=
  ∃ (it : Addr) (fp : List Addr) (tn : Nat → Heap → Prop) (J : It) (H' : Hp), itv = .ref it ∧ Inv X pins σ H' s2 ∧ Turn X.prog X.w X.K tg J fp it tn ∧ tn 0 s2.heap ∧ (∀ b ∈ fp, FpOk X pins H' b) ∧ R J H'
noncomputable def PI (X : Cx) (tg iter : Expr) (wi : TI) : Prop :=
  ∀ (pins : List (Addr × Obj)) (s : Shared) (σ : St) (H : Hp) (R : It → Hp → Prop), Inv X pins σ H s → wi σ H R →
    wpAny (model X.prog X.w) X.A (eval iter X.env) (fun v s1 => wpAny (model X.prog X.w) X.A (pyIter v) (PIE X pins σ tg R) X.xe s1) X.xe s

theorem go_of {M : Model} {A : Around} {E : Value → Shared → Prop} {s : Shared} {tg : Expr} {it : Addr} {u : Value} {o : Obj} {n : String} {vs : Array Value} {Q : Unit → Shared → Prop} (ho : s.heap.get? it = some o) (hc : o.cls = .type n) (hd : o.data = .fields vs)
    (hn : ["enumerate", "zip", "dict_itemiterator", "dict_reverseitemiterator", "odict_iterator", "itertools.zip_longest", "itertools.pairwise"].contains n = false) (hQ : Q () s) : wpAny M A (letOwnedTupleGo tg (.ref it) u) Q E s := by
  unfold letOwnedTupleGo
  cases tg <;> first
    | exact wpAny_pure hQ
    | (cases u <;> first
        | exact wpAny_pure hQ
        | (refine wpAny_bind (wpAny_load ho ?_)
           rw [hc, hd]
           show wpAny M A (if (["enumerate", "zip", "dict_itemiterator", "dict_reverseitemiterator", "odict_iterator", "itertools.zip_longest", "itertools.pairwise"].contains n && vs[0]? == some (rawInt _)) = true then _ else _) Q E s
           rw [if_neg (by intro h; rw [hn, Bool.false_and] at h; cases h)]
           exact wpAny_pure hQ))

noncomputable def Itl (K : PySem.W.Frag) (a : Addr) : It :=
  ⟨fun i H => ∃ xs x, SqL K H a xs ∧ xs[i]? = some x, fun i H x H' => H' = H ∧ ∀ xs, SqL K H a xs → xs[i]? = some x, fun i H => ∃ xs, SqL K H a xs ∧ xs.length ≤ i⟩
noncomputable def Itt (K : PySem.W.Frag) (a : Addr) : It :=
  ⟨fun i H => ∃ xs x, SqT K H a xs ∧ xs[i]? = some x, fun i H x H' => H' = H ∧ ∀ xs, SqT K H a xs → xs[i]? = some x, fun i H => ∃ xs, SqT K H a xs ∧ xs.length ≤ i⟩
noncomputable def Itr (lo : Int) (n : Nat) : It := ⟨fun i _ => i < n, fun i H x H' => H' = H ∧ x = .int (lo + i), fun i _ => n ≤ i⟩
theorem turn_list {P : Program} {w : World} {K : PySem.W.Frag} {tg : Expr} (a it : Addr) : Turn P w K tg (Itl K a) [it] it (fun i h => h.IsListIter it a i) where
  mem := by simp
  obj := fun i h st b hb => by
    have e : b = it := by simpa using hb
    subst e
    obtain ⟨o, e, c, d⟩ := st
    exact ⟨o, e, fun v z => by rw [d] at z; cases z⟩
  keep := fun i h h' st k => st.at fun o e => k it (by simp) o e
  item := by
    intro X hP hw hK hc i pins s σ H E I hf st hg
    subst hP hw hK
    obtain ⟨xs, x, hq, hx⟩ := hg
    obtain ⟨its, rv, p, hz⟩ := I.list hq
    obtain ⟨u, hu, ru⟩ := rv.get hx
    obtain ⟨f0, f1, f2, f3, f4, f5⟩ := hf it (by simp)
    refine wpAny_pyNext_list_item st p.isList (x := u) (by simpa using hu) fun h' st' sb => ?_
    have I1 : Inv X pins σ H { s with heap := h' } := I.turned (t' := s.toks) (fun b o hb e => (sb.2 b hb).trans e) f0 f1 f3 f4 f5
    obtain ⟨o, e, c, d⟩ := id st'
    exact ⟨u, rfl, go_of (s := { s with heap := h' }) e c d (by decide) ⟨x, H, I1, ru, ⟨rfl, fun ys hy => by rw [I.list_inj hy hq]; exact hx⟩, st', fun b hb => (hf b hb).1⟩⟩
  done := by
    intro X hP hw hK hc i pins s σ H E I hf st hg
    subst hP hw hK
    obtain ⟨xs, hq, hx⟩ := hg
    obtain ⟨its, rv, p, hz⟩ := I.list hq
    obtain ⟨f0, f1, f2, f3, f4, f5⟩ := hf it (by simp)
    have hl := rv.length
    exact wpAny_pyNext_list_end (I.ok.hd hc) st p.isList (by simp; omega) fun h' eb => ⟨rfl, I.turned (t' := s.toks) (fun b o hb e => eb b o hb e) f0 f1 f3 f4 f5⟩
  self := fun _ _ _ _ _ st h => wpAny_pyIter_listiter st h
theorem turn_tuple {P : Program} {w : World} {K : PySem.W.Frag} {tg : Expr} (a it : Addr) : Turn P w K tg (Itt K a) [it] it (fun i h => h.IsTupleIter it a i) where
  mem := by simp
  obj := fun i h st b hb => by
    have e : b = it := by simpa using hb
    subst e
    obtain ⟨o, e, c, d⟩ := st
    exact ⟨o, e, fun v z => by rw [d] at z; cases z⟩
  keep := fun i h h' st k => st.at fun o e => k it (by simp) o e
  item := by
    intro X hP hw hK hc i pins s σ H E I hf st hg
    subst hP hw hK
    obtain ⟨xs, x, hq, hx⟩ := hg
    obtain ⟨its, rv, p, hz⟩ := I.tuple hq
    obtain ⟨u, hu, ru⟩ := rv.get hx
    obtain ⟨f0, f1, f2, f3, f4, f5⟩ := hf it (by simp)
    refine wpAny_pyNext_tuple_item st (show s.heap.IsTuple a its.toArray from p) (x := u) (by simpa using hu) fun h' st' sb => ?_
    have I1 : Inv X pins σ H { s with heap := h' } := I.turned (t' := s.toks) (fun b o hb e => (sb.2 b hb).trans e) f0 f1 f3 f4 f5
    obtain ⟨o, e, c, d⟩ := id st'
    exact ⟨u, rfl, go_of (s := { s with heap := h' }) e c d (by decide) ⟨x, H, I1, ru, ⟨rfl, fun ys hy => by rw [I.tuple_inj hy hq]; exact hx⟩, st', fun b hb => (hf b hb).1⟩⟩
  done := by
    intro X hP hw hK hc i pins s σ H E I hf st hg
    subst hP hw hK
    obtain ⟨xs, hq, hx⟩ := hg
    obtain ⟨its, rv, p, hz⟩ := I.tuple hq
    obtain ⟨f0, f1, f2, f3, f4, f5⟩ := hf it (by simp)
    have hl := rv.length
    exact wpAny_pyNext_tuple_end (I.ok.hd hc) st (show s.heap.IsTuple a its.toArray from p) (by simp; omega) fun h' eb => ⟨rfl, I.turned (t' := s.toks) (fun b o hb e => eb b o hb e) f0 f1 f3 f4 f5⟩
  self := fun _ _ _ _ _ st h => wpAny_pyIter_tupleiter st h
theorem turn_range {P : Program} {w : World} {K : PySem.W.Frag} {tg : Expr} (it : Addr) (lo : Int) (n : Nat) : Turn P w K tg (Itr lo n) [it] it (fun i h => IsRangeIter h it (lo + (i : Nat) * 1) ((n : Int) - (i : Nat)) 1) where
  mem := by simp
  obj := fun i h st b hb => by
    have e : b = it := by simpa using hb
    subst e
    exact ⟨_, st, fun v z => by
      have z' : Data.fields _ = Data.cell v := z
      cases z'⟩
  keep := fun i h h' st k => k it (by simp) _ st
  item := by
    intro X hP hw hK hc i pins s σ H E I hf st hg
    subst hP hw hK
    obtain ⟨f0, f1, f2, f3, f4, f5⟩ := hf it (by simp)
    have W := Walks.range (prog := X.prog) (w := X.w) (I.ok.hd hc) it lo 1 n
    refine W.item i s _ _ hg st fun v h' tk hv st' kk => ?_
    obtain ⟨t, rfl⟩ := hv
    have I1 : Inv X pins σ H { s with heap := h', toks := tk } := I.turned (fun b o hb e => kk b o (by simpa using hb) e) f0 f1 f3 f4 f5
    refine ⟨_, rfl, go_of (s := { s with heap := h', toks := tk }) (n := "range_iterator") st' rfl rfl (by decide) ⟨.int (lo + i), H, I1, ⟨t, ?_⟩, ⟨rfl, rfl⟩, st', fun b hb => (hf b hb).1⟩⟩
    rw [Int.mul_one]
  done := by
    intro X hP hw hK hc i pins s σ H E I hf st hg
    subst hP hw hK
    obtain ⟨f0, f1, f2, f3, f4, f5⟩ := hf it (by simp)
    exact wpAny_pyNext_range_end (I.ok.hd hc) st (by have : n ≤ i := hg; omega) fun h' eb => ⟨rfl, I.turned (t' := s.toks) (fun b o hb e => eb b o hb e) f0 f1 f3 f4 f5⟩
  self := fun _ _ _ _ _ st h => wpAny_pyIter_rangeiter st h
end L2

namespace L2
open PySem PySem.Spec PyProof.Rows
section
variable {X : Cx} {tg : Expr}
noncomputable def iList (K : PySem.W.Frag) (tl : TE) : TI := fun σ H R => tl σ H fun x H1 => ∃ a, x = .ref a ∧ (∃ xs, SqL K H1 a xs) ∧ R (Itl K a) H1
noncomputable def iTup (K : PySem.W.Frag) (tl : TE) : TI := fun σ H R => tl σ H fun x H1 => ∃ a, x = .ref a ∧ (∃ xs, SqT K H1 a xs) ∧ R (Itt K a) H1
theorem pi_list {l : Expr} {tl : TE} (hl : PE X l tl) : PI X tg l (iList X.K tl) := by
  intro pins s σ H R I h
  refine thn (hl pins s σ H _ I h) fun v s1 ⟨x, H1, I1, r1, q1⟩ => ?_
  obtain ⟨a, e, ⟨xs, hq⟩, q⟩ := q1
  subst e
  cases r1
  obtain ⟨its, rv, p, hz⟩ := I1.list hq
  refine wpAny_pyIter_list p.isList ?_
  refine ⟨s1.heap.objs.size, [s1.heap.objs.size], _, _, H1, rfl, I1.kept (t' := s1.toks) fun b o e => Heap.get?_push_of_some _ e, turn_list a _, ⟨_, Heap.get?_push_size _ rfl, rfl, rfl⟩, fun b hb => ?_, q⟩
  have e : b = s1.heap.objs.size := by simpa using hb
  subst e
  exact I1.fpOk (Nat.le_refl _) (I1.hok.fresh (Nat.le_refl _))
theorem pi_tup {l : Expr} {tl : TE} (hl : PE X l tl) : PI X tg l (iTup X.K tl) := by
  intro pins s σ H R I h
  refine thn (hl pins s σ H _ I h) fun v s1 ⟨x, H1, I1, r1, q1⟩ => ?_
  obtain ⟨a, e, ⟨xs, hq⟩, q⟩ := q1
  subst e
  cases r1
  obtain ⟨its, rv, p, hz⟩ := I1.tuple hq
  refine wpAny_pyIter_tuple (show s1.heap.IsTuple a its.toArray from p) ?_
  refine ⟨s1.heap.objs.size, [s1.heap.objs.size], _, _, H1, rfl, I1.kept (t' := s1.toks) fun b o e => Heap.get?_push_of_some _ e, turn_tuple a _, ⟨_, Heap.get?_push_size _ rfl, rfl, rfl⟩, fun b hb => ?_, q⟩
  have e : b = s1.heap.objs.size := by simpa using hb
  subst e
  exact I1.fpOk (Nat.le_refl _) (I1.hok.fresh (Nat.le_refl _))
theorem range_it {pins : List (Addr × Obj)} {σ : St} {H : Hp} {s : Shared} {R : It → Hp → Prop} {E : Value → Shared → Prop} {lo hi : Int} {t u v : Tok} {tk : Nat} (I : Inv X pins σ H s) (h1 : -(2 ^ 62) ≤ lo) (h2 : lo < 2 ^ 62) (h3 : -(2 ^ 62) ≤ hi) (h4 : hi < 2 ^ 62)
    (q : R (Itr lo (hi - lo).toNat) H) : wpAny (model X.prog X.w) X.A (pyIter (.ref s.heap.objs.size)) (PIE X pins σ tg R) E { s with heap := s.heap.push { cls := .type "range", data := .fields #[.int lo t, .int hi u, .int 1 v] }, toks := tk } := by
  refine wpAny_pyIter_range (IsRange.new ..) (small_one h1 h2 h3 h4) ?_
  have I1 : Inv X pins σ H { s with heap := s.heap.push { cls := .type "range", data := .fields #[.int lo t, .int hi u, .int 1 v] }, toks := tk } := I.kept fun b o e => Heap.get?_push_of_some _ e
  refine ⟨(s.heap.push { cls := .type "range", data := .fields #[.int lo t, .int hi u, .int 1 v] }).objs.size, [(s.heap.push { cls := .type "range", data := .fields #[.int lo t, .int hi u, .int 1 v] }).objs.size], _, _, H, rfl,
    I1.kept (t' := tk) fun b o e => Heap.get?_push_of_some _ e, turn_range _ lo (hi - lo).toNat, ?_, fun b hb => ?_, q⟩
  · have e1 : lo + ((0 : Nat) : Int) * 1 = lo := by simp
    have e2 : (((hi - lo).toNat : Nat) : Int) - ((0 : Nat) : Int) = Builtin.Range.rangeSize lo hi 1 := by rw [rangeSize_one]; split <;> omega
    show IsRangeIter _ _ (lo + ((0 : Nat) : Int) * 1) ((((hi - lo).toNat : Nat) : Int) - ((0 : Nat) : Int)) 1
    rw [e1, e2]
    exact Heap.get?_push_size _ rfl
  · have e : b = (s.heap.push { cls := .type "range", data := .fields #[.int lo t, .int hi u, .int 1 v] }).objs.size := by simpa using hb
    subst e
    exact I1.fpOk (Nat.le_refl _) (I1.hok.fresh (Nat.le_refl _))
noncomputable def iRng1 (ta : TA) : TI := fun σ H R => ta σ H fun vs H1 => ∃ j : Int, vs = [.int j] ∧ -(2 ^ 62) ≤ j ∧ j < 2 ^ 62 ∧ R (Itr 0 j.toNat) H1
theorem pi_range1 {a : Expr} {ta : TA} {p pos : Pos} (hg : Gl X "range") (hm : X.mg "range" = none) (ha : PA X [a] ta) (hs : starEach [a] X.env = [(false, eval a X.env)] := by rfl) : PI X tg (.Call (.Name "range" p) [a] [] pos) (iRng1 ta) := by
  intro pins s σ H R I h
  refine Call_ (ld_blt I hg hm boot_range (PyProof.Rows.callWith_type1 (thn (ha pos pins s σ H _ I h) fun us s1 ⟨vs, H1, I1, r1, q1⟩ => ?_) hs rfl))
  obtain ⟨j, e, q1, q2, q⟩ := q1
  subst e
  cases r1 with
  | cons r rr =>
    cases rr
    obtain ⟨t, rfl⟩ := r
    exact call_range_1 (range_it I1 (by omega) (by omega) q1 q2 (by simpa using q))
noncomputable def tFor (wi : TI) (g : TG) (tb : TS) : TS := fun D σ H => wi σ H fun J H1 => ∃ W : Nat → Nat → St → Hp → Prop, (∃ m, W 0 m σ H1) ∧ ∀ i m σ H, W i m σ H →
  (J.stop i H ∧ D.nx σ H) ∨ (J.go i H ∧ ∃ N : St → Hp → Prop, (∀ σ' H', N σ' H' → ∃ m', m' < m ∧ W (i + 1) m' σ' H') ∧ ∀ x H', J.yld i H x H' → g x σ H' fun σ2 H2 => tb { D with nx := N, ct := N, bk := D.nx } σ2 H2)
noncomputable def pinsAt (fp : List Addr) (h : Heap) : List (Addr × Obj) := fp.filterMap fun b => (h.get? b).map fun o => (b, o)
theorem mem_pinsAt {fp : List Addr} {h : Heap} {b : Addr} {o : Obj} (hb : b ∈ fp) (e : h.get? b = some o) : (b, o) ∈ pinsAt fp h := List.mem_filterMap.mpr ⟨b, hb, by rw [e]; rfl⟩
theorem of_pinsAt {fp : List Addr} {h : Heap} {p : Addr × Obj} (hp : p ∈ pinsAt fp h) : p.1 ∈ fp ∧ h.get? p.1 = some p.2 := by
  obtain ⟨b, hb, e⟩ := List.mem_filterMap.mp hp
  cases q : h.get? b with
  | none => rw [q] at e; cases e
  | some o =>
    rw [q] at e
    have e' : (b, o) = p := Option.some.inj e
    subst e'
    exact ⟨hb, q⟩
theorem Inv.pinned {pins : List (Addr × Obj)} {σ : St} {H : Hp} {s : Shared} {fp : List Addr} (I : Inv X pins σ H s) (hf : ∀ b ∈ fp, FpOk X pins H b) (ho : ∀ b ∈ fp, ∃ o, s.heap.get? b = some o ∧ ∀ v, o.data ≠ .cell v) : Inv X (pins ++ pinsAt fp s.heap) σ H s :=
  I.pins_of fun p hp => (List.mem_append.mp hp).elim (fun z => I.pin p (List.mem_append_right _ z)) fun z => by
    obtain ⟨hb, e⟩ := of_pinsAt z
    obtain ⟨f0, f1, f2, _⟩ := hf p.1 hb
    obtain ⟨o, e', d⟩ := ho p.1 hb
    rw [e] at e'; cases e'
    exact ⟨e, f0, f1, f2, d⟩
theorem Inv.unpinned {pins pl : List (Addr × Obj)} {σ : St} {H : Hp} {s : Shared} (I : Inv X (pins ++ pl) σ H s) : Inv X pins σ H s := I.pins_of fun p hp => I.pin p (List.mem_append_right _ (List.mem_append_left _ hp))
theorem ps_for {iter : Expr} {body : List Stmt} {wi : TI} {g : TG} {tb : TS} {pos : Pos} (hp : PassesOwn (model X.prog X.w) X.A X.env X.xe) (hc : X.calm = true) (hi : PI X tg iter wi) (hg : PG X tg g) (hb : PSs X body tb)
    (hs : ∀ x, foldedSetIterable iter X.env x = pure x := by intro _; rfl) : PS X (.For tg iter body [] pos) (tFor wi g tb) := by
  intro pins s σ H D I h
  refine wpAny_For (thn (hi pins s σ H _ I h) fun v s1 h1 => thn h1 fun itv s2 h2 => ?_) hs
  obtain ⟨it, fp, tn, J, H2, e, I2, T, st2, f2, W, ⟨m0, w0⟩, turn⟩ := h2
  subst e
  -- what stays true of the iterator's objects through the loop
  have stat : ∀ {H' : Hp}, (∀ b ∈ fp, H' b = none) → ∀ b ∈ fp, FpOk X pins H' b := fun hn b hb => ⟨hn b hb, (f2 b hb).2⟩
  refine codeAny_forLoop_any (fun n s' => ∃ i σ' H', Inv X pins σ' H' s' ∧ tn i s'.heap ∧ (∀ b ∈ fp, H' b = none) ∧ W i n σ' H') ?_ m0 ⟨0, σ, H2, I2, st2, fun b hb => (f2 b hb).1, w0⟩
  rintro n s3 ⟨i, σ3, H3, I3, st3, fr3, w3⟩
  rcases turn i n σ3 H3 w3 with ⟨stop, qn⟩ | ⟨go, N, hN, step⟩
  · refine wpAny_passesOwn hp (thn (T.done X rfl rfl rfl hc i pins s3 σ3 H3 X.xe I3 (stat fr3) st3 stop) fun r s4 ⟨hr, I4⟩ => ?_)
    subst hr
    exact wpAny_execs_nil ⟨σ3, H3, I4, qn⟩
  · refine wpAny_passesOwn hp (thn (T.item X rfl rfl rfl hc i pins s3 σ3 H3 X.xe I3 (stat fr3) st3 go) fun r s4 ⟨u, hr, h4⟩ => ?_)
    subst hr
    refine wpAny_passesOwn hp (thn h4 fun _ s5 ⟨x, H5, I5, r5, y5, st5, fr5⟩ => ?_)
    have I5' := I5.pinned (stat fr5) (T.obj _ _ st5)
    refine wpAny_passesOwn hp (thn (hg _ s5 σ3 H5 x u _ I5' r5 (step x H5 y5)) fun _ s6 ⟨σ6, H6, I6, q6⟩ => ?_)
    refine wpAny_passesOwn hp (thn (hb _ s6 σ6 H6 _ I6 q6) fun f s7 q7 => ?_)
    have again : ∀ {σ7 : St} {H7 : Hp}, Inv X (pins ++ pinsAt fp s5.heap) σ7 H7 s7 → N σ7 H7 → ∃ m, m < n ∧ ∃ i σ' H', Inv X pins σ' H' s7 ∧ tn i s7.heap ∧ (∀ b ∈ fp, H' b = none) ∧ W i m σ' H' := fun {σ7 H7} I7 n7 => by
      obtain ⟨m', hm, w7⟩ := hN σ7 H7 n7
      refine ⟨m', hm, i + 1, σ7, H7, I7.unpinned, T.keep _ _ _ st5 fun b hb o e => (I7.pin (b, o) (List.mem_append_right _ (List.mem_append_right _ (mem_pinsAt hb e)))).1, fun b hb => ?_, w7⟩
      obtain ⟨o, e, d⟩ := T.obj _ _ st5 b hb
      exact (I7.pin (b, o) (List.mem_append_right _ (List.mem_append_right _ (mem_pinsAt hb e)))).2.1
    cases f with
    | next => obtain ⟨σ7, H7, I7, n7⟩ := q7; exact again I7 n7
    | cont => obtain ⟨σ7, H7, I7, n7⟩ := q7; exact again I7 n7
    | brk => obtain ⟨σ7, H7, I7, q7⟩ := q7; exact ⟨σ7, H7, I7.unpinned, q7⟩
    | ret v => obtain ⟨x7, σ7, H7, I7, r7, q7⟩ := q7; exact ⟨x7, σ7, H7, I7.unpinned, r7, q7⟩
end

theorem for_list {K : PySem.W.Frag} {a : Addr} {xs : List V} {g : TG} {tb : TS} {D : Ends} {σ : St} {H : Hp} (Pv : Nat → St → Hp → Prop) (h0 : Pv 0 σ H) (hl : ∀ i σ H, i ≤ xs.length → Pv i σ H → SqL K H a xs)
    (hs : ∀ i x σ H, xs[i]? = some x → Pv i σ H → g x σ H fun σ2 H2 => tb { D with nx := Pv (i + 1), ct := Pv (i + 1), bk := D.nx } σ2 H2) (hd : ∀ σ H, Pv xs.length σ H → D.nx σ H) :
    ∃ W : Nat → Nat → St → Hp → Prop, (∃ m, W 0 m σ H) ∧ ∀ i m σ H, W i m σ H →
      ((Itl K a).stop i H ∧ D.nx σ H) ∨ ((Itl K a).go i H ∧ ∃ N : St → Hp → Prop, (∀ σ' H', N σ' H' → ∃ m', m' < m ∧ W (i + 1) m' σ' H') ∧ ∀ x H', (Itl K a).yld i H x H' → g x σ H' fun σ2 H2 => tb { D with nx := N, ct := N, bk := D.nx } σ2 H2) := by
  refine ⟨fun i m σ H => m = xs.length - i ∧ i ≤ xs.length ∧ Pv i σ H, ⟨xs.length, by simp, Nat.zero_le _, h0⟩, ?_⟩
  rintro i m σ H ⟨rfl, hi, p⟩
  have q := hl i σ H hi p
  by_cases hlt : i < xs.length
  · refine .inr ⟨⟨xs, xs[i], q, by simp [hlt]⟩, Pv (i + 1), fun σ' H' p' => ⟨xs.length - (i + 1), by omega, rfl, hlt, p'⟩, fun x H' y => ?_⟩
    obtain ⟨e, y⟩ := y
    subst e
    exact hs i x σ _ (y xs q) p
  · have e : i = xs.length := by omega
    subst e
    exact .inl ⟨⟨xs, q, Nat.le_refl _⟩, hd σ H p⟩
theorem for_range {lo : Int} {n : Nat} {g : TG} {tb : TS} {D : Ends} {σ : St} {H : Hp} (Pv : Nat → St → Hp → Prop) (h0 : Pv 0 σ H)
    (hs : ∀ i σ H, i < n → Pv i σ H → g (.int (lo + i)) σ H fun σ2 H2 => tb { D with nx := Pv (i + 1), ct := Pv (i + 1), bk := D.nx } σ2 H2) (hd : ∀ σ H, Pv n σ H → D.nx σ H) :
    ∃ W : Nat → Nat → St → Hp → Prop, (∃ m, W 0 m σ H) ∧ ∀ i m σ H, W i m σ H →
      ((Itr lo n).stop i H ∧ D.nx σ H) ∨ ((Itr lo n).go i H ∧ ∃ N : St → Hp → Prop, (∀ σ' H', N σ' H' → ∃ m', m' < m ∧ W (i + 1) m' σ' H') ∧ ∀ x H', (Itr lo n).yld i H x H' → g x σ H' fun σ2 H2 => tb { D with nx := N, ct := N, bk := D.nx } σ2 H2) := by
  refine ⟨fun i m σ H => m = n - i ∧ i ≤ n ∧ Pv i σ H, ⟨n, by simp, Nat.zero_le _, h0⟩, ?_⟩
  rintro i m σ H ⟨rfl, hi, p⟩
  by_cases hlt : i < n
  · refine .inr ⟨hlt, Pv (i + 1), fun σ' H' p' => ⟨n - (i + 1), by omega, rfl, hlt, p'⟩, fun x H' y => ?_⟩
    obtain ⟨e, y⟩ := y
    subst e y
    exact hs i σ _ hlt p
  · have e : i = n := by omega
    subst e
    exact .inl ⟨Nat.le_refl _, hd σ H p⟩
end L2

namespace L2
open PySem PySem.Spec PyProof.Rows

noncomputable abbrev R2 := V → V → Hp → VK → Prop
noncomputable def OpR (X : Cx) (f : Value → Value → Sem Value) (r : R2) : Prop :=
  ∀ (pins : List (Addr × Obj)) (s : Shared) (σ : St) (H : Hp) (x y : V) (v u : Value) (Q : VK), Inv X pins σ H s → RelV x v → RelV y u → r x y H Q →
    wpAny (model X.prog X.w) X.A (f v u) (EP X pins σ Q) X.xe s
noncomputable def UnR (X : Cx) (f : Value → Sem Value) (r : V → Hp → VK → Prop) : Prop :=
  ∀ (pins : List (Addr × Obj)) (s : Shared) (σ : St) (H : Hp) (x : V) (v : Value) (Q : VK), Inv X pins σ H s → RelV x v → r x H Q →
    wpAny (model X.prog X.w) X.A (f v) (EP X pins σ Q) X.xe s
noncomputable def CallR (X : Cx) (f : Value) (r : List V → Hp → VK → Prop) : Prop :=
  ∀ (pins : List (Addr × Obj)) (s : Shared) (σ : St) (H : Hp) (xs : List V) (us : List Value) (Q : VK), Inv X pins σ H s → Vals xs us → r xs H Q →
    wpAny (model X.prog X.w) X.A (call f us) (EP X pins σ Q) X.xe s
noncomputable def tOp (r : R2) (ta tb : TE) : TE := fun σ H Q => ta σ H fun x H1 => tb σ H1 fun y H2 => r x y H2 Q
noncomputable def tUn (r : V → Hp → VK → Prop) (ta : TE) : TE := fun σ H Q => ta σ H fun x H1 => r x H1 Q
noncomputable def rI (C : Int → Int → Prop) (g : Int → Int → V) : R2 := fun x y H Q => ∃ i j, x = .int i ∧ y = .int j ∧ C i j ∧ Q (g i j) H
noncomputable def rI0 (g : Int → Int → V) : R2 := fun x y H Q => ∃ i j, x = .int i ∧ y = .int j ∧ Q (g i j) H
noncomputable def rU (g : Int → V) : V → Hp → VK → Prop := fun x H Q => ∃ i, x = .int i ∧ Q (g i) H

section
variable {X : Cx} {a b c : Expr} {ta tb tc : TE} {pos : Pos}

theorem binT (ha : PE X a ta) (hb : PE X b tb) {pins : List (Addr × Obj)} {s : Shared} {σ : St} {H : Hp} {R : V → V → Hp → Prop} (I : Inv X pins σ H s)
    (h : ta σ H fun x H1 => tb σ H1 fun y H2 => R x y H2) {Q : Value → Shared → Prop} {f : Value → Value → Sem Value}
    (hf : ∀ v u s2 x y H2, Inv X pins σ H2 s2 → RelV x v → RelV y u → R x y H2 → wpAny (model X.prog X.w) X.A (f v u) Q X.xe s2) :
    wpAny (model X.prog X.w) X.A (eval a X.env) (fun v s₁ => wpAny (model X.prog X.w) X.A (eval b X.env) (fun u s₂ => wpAny (model X.prog X.w) X.A (f v u) Q X.xe s₂) X.xe s₁) X.xe s := by
  refine thn (ha pins s σ H _ I h) fun v s1 ⟨x, H1, I1, r1, q1⟩ => ?_
  refine thn (hb pins s1 σ H1 _ I1 q1) fun u s2 ⟨y, H2, I2, r2, q2⟩ => ?_
  exact hf v u s2 x y H2 I2 r1 r2 q2

theorem pe_op {op : Operator} {r : R2} (ho : OpR X (binaryOp op) r) (ha : PE X a ta) (hb : PE X b tb) : PE X (.BinOp a op b pos) (tOp r ta tb) := by
  intro pins s σ H Q I h
  exact wpAny_BinOp (binT ha hb I h fun v u s2 x y H2 I2 rx ry q => ho pins s2 σ H2 x y v u Q I2 rx ry q)
theorem pe_un {op : UnaryOp} {r : V → Hp → VK → Prop} (ho : UnR X (unaryOp op) r) (ha : PE X a ta) : PE X (.UnaryOp op a pos) (tUn r ta) := by
  intro pins s σ H Q I h
  exact UnaryOp_ (thn (ha pins s σ H _ I h) fun v s1 ⟨x, H1, I1, r1, q1⟩ => ho pins s1 σ H1 x v Q I1 r1 q1)
theorem opI {f : Value → Value → Sem Value} {C : Int → Int → Prop} {g : Int → Int → Int}
    (rule : ∀ (i j : Int) (t u : Tok) (s : Shared) (Q : Value → Shared → Prop) (E : Value → Shared → Prop), C i j → Q (.int (g i j) s.toks) { s with toks := s.toks + 1 } → wpAny (model X.prog X.w) X.A (f (.int i t) (.int j u)) Q E s) :
    OpR X f (rI C fun i j => .int (g i j)) := by
  intro pins s σ H x y v u Q I rx ry h
  obtain ⟨i, j, rfl, rfl, hc, q⟩ := h
  obtain ⟨t, rfl⟩ := rx
  obtain ⟨t', rfl⟩ := ry
  exact rule i j t t' s _ _ hc ⟨.int (g i j), H, I.tok _, ⟨_, rfl⟩, q⟩
theorem opI0 {f : Value → Value → Sem Value} {g : Int → Int → Int}
    (rule : ∀ (i j : Int) (t u : Tok) (s : Shared) (Q : Value → Shared → Prop) (E : Value → Shared → Prop), Q (.int (g i j) s.toks) { s with toks := s.toks + 1 } → wpAny (model X.prog X.w) X.A (f (.int i t) (.int j u)) Q E s) :
    OpR X f (rI0 fun i j => .int (g i j)) := by
  intro pins s σ H x y v u Q I rx ry h
  obtain ⟨i, j, rfl, rfl, q⟩ := h
  obtain ⟨t, rfl⟩ := rx
  obtain ⟨t', rfl⟩ := ry
  exact rule i j t t' s _ _ ⟨.int (g i j), H, I.tok _, ⟨_, rfl⟩, q⟩
theorem opB0 {f : Value → Value → Sem Value} {g : Int → Int → Bool}
    (rule : ∀ (i j : Int) (t u : Tok) (s : Shared) (Q : Value → Shared → Prop) (E : Value → Shared → Prop), Q (.bool (g i j)) s → wpAny (model X.prog X.w) X.A (f (.int i t) (.int j u)) Q E s) :
    OpR X f (rI0 fun i j => .bl (g i j)) := by
  intro pins s σ H x y v u Q I rx ry h
  obtain ⟨i, j, rfl, rfl, q⟩ := h
  obtain ⟨t, rfl⟩ := rx
  obtain ⟨t', rfl⟩ := ry
  exact rule i j t t' s _ _ ⟨.bl (g i j), H, I, rfl, q⟩

noncomputable def CDiv (i j : Int) : Prop := 0 < j ∧ j < 1073741824
noncomputable def CPow (i j : Int) : Prop := 0 ≤ j ∧ j ≤ 1000000 ∧ i.natAbs < 2 ^ 64
noncomputable def CMul (i j : Int) : Prop := (-(2 ^ 64) < i ∧ i < 2 ^ 64) ∨ (-(2 ^ 64) < j ∧ j < 2 ^ 64)
theorem CMul.ok {i j : Int} (h : CMul i j) : IntMulOk i j := by
  rcases h with ⟨h1, h2⟩ | ⟨h1, h2⟩
  · exact .of_left (intBits_le_64 h1 h2)
  · exact .of_right (intBits_le_64 h1 h2)
theorem op_add : OpR X (binaryOp .Add) (rI0 fun i j => .int (i + j)) := opI0 fun _ _ _ _ _ _ _ q => add_int q
theorem op_sub : OpR X (binaryOp .Sub) (rI0 fun i j => .int (i - j)) := opI0 fun _ _ _ _ _ _ _ q => sub_int q
theorem op_mul : OpR X (binaryOp .Mult) (rI CMul fun i j => .int (i * j)) := opI fun _ _ _ _ _ _ _ hc q => mul_int q hc.ok
theorem op_fdiv : OpR X (binaryOp .FloorDiv) (rI CDiv fun i j => .int (i / j)) := opI fun i j _ _ _ _ _ hc q => by
  have h1 : (0 : Int) < j := hc.1
  have h2 : j < 1073741824 := hc.2
  exact floordiv_int (by omega) (by rw [Int.fdiv_eq_ediv_of_nonneg i (by omega)]; exact q) (.inl (PyProof.noPylong_small (by omega)))
theorem op_mod : OpR X (binaryOp .Mod) (rI (fun _ j => 0 < j) fun i j => .int (i % j)) := opI fun i j _ _ _ _ _ hc q => by
  have h1 : (0 : Int) < j := hc
  exact mod_int' (by omega) (by rw [Int.fmod_eq_emod_of_nonneg i (by omega)]; exact q)
theorem op_pow : OpR X (binaryOp .Pow) (rI CPow fun i j => .int (i ^ j.toNat)) := opI fun _ _ _ _ _ _ _ hc q => pow_int_small hc.1 hc.2.1 hc.2.2 q
theorem op_and : OpR X (binaryOp .BitAnd) (rI0 fun i j => .int (Builtin.bitAnd i j)) := opI0 fun _ _ _ _ _ _ _ q => and_int q
theorem op_or : OpR X (binaryOp .BitOr) (rI0 fun i j => .int (Builtin.bitOr i j)) := opI0 fun _ _ _ _ _ _ _ q => or_int q
theorem op_xor : OpR X (binaryOp .BitXor) (rI0 fun i j => .int (Builtin.bitXor i j)) := opI0 fun _ _ _ _ _ _ _ q => xor_int q

theorem unI {f : Value → Sem Value} {g : Int → Int}
    (rule : ∀ (i : Int) (t : Tok) (s : Shared) (Q : Value → Shared → Prop) (E : Value → Shared → Prop), Q (.int (g i) s.toks) { s with toks := s.toks + 1 } → wpAny (model X.prog X.w) X.A (f (.int i t)) Q E s) :
    UnR X f (rU fun i => .int (g i)) := by
  intro pins s σ H x v Q I rx h
  obtain ⟨i, rfl, q⟩ := h
  obtain ⟨t, rfl⟩ := rx
  exact rule i t s _ _ ⟨.int (g i), H, I.tok _, ⟨_, rfl⟩, q⟩
theorem un_neg : UnR X (unaryOp .USub) (rU fun i => .int (-i)) := unI fun _ _ _ _ _ q => neg_int q
end

noncomputable def scal : V → V → Bool
  | .non, .non => true | .non, .int _ => true | .int _, .non => true | .non, .bl _ => true | .bl _, .non => true | .non, .str _ => true | .str _, .non => true
  | .int _, .int _ => true | .bl _, .bl _ => true | .str _, .str _ => true | .byt _, .byt _ => true
  | .int _, .str _ => true | .str _, .int _ => true | .bl _, .str _ => true | .str _, .bl _ => true
  | _, _ => false
noncomputable def rEq : R2 := fun x y H Q => scal x y = true ∧ Q (.bl (decide (x = y))) H
noncomputable def rNe : R2 := fun x y H Q => scal x y = true ∧ Q (.bl (!decide (x = y))) H

theorem dec_int {i j : Int} : decide (V.int i = V.int j) = (i == j) := by
  rw [Bool.eq_iff_iff]
  simp
theorem dec_bl {i j : Bool} : decide (V.bl i = V.bl j) = (i == j) := by
  rw [Bool.eq_iff_iff]
  simp
theorem dec_str {i j : Str} : decide (V.str i = V.str j) = (i == j) := by
  rw [Bool.eq_iff_iff]
  simp
theorem dec_byt {i j : Array UInt8} : decide (V.byt i = V.byt j) = (i.toList == j.toList) := by
  rw [Bool.eq_iff_iff]
  cases i
  cases j
  simp

section
variable {X : Cx} {a b c : Expr} {ta tb tc : TE} {pos : Pos}
theorem fin_bl {pins : List (Addr × Obj)} {σ : St} {H : Hp} {s : Shared} {Q : VK} {k k' : Bool} (I : Inv X pins σ H s) (q : Q (.bl k) H) (e : k = k') : EP X pins σ Q (.bool k') s := by
  subst e
  exact ⟨.bl k, H, I, rfl, q⟩
theorem op_eq : OpR X (compareOp .Eq) rEq := by
  intro pins s σ H x y v u Q I rx ry h
  obtain ⟨hs, q⟩ := h
  cases x with
  | non =>
    cases rx
    cases y with
    | non => cases ry; exact PySem.EqNone.eq_none_none (fin_bl I q (by simp))
    | bl j => cases ry; exact PySem.EqNone.eq_none_bool (fin_bl I q (by simp))
    | int j => obtain ⟨t', rfl⟩ := ry; exact PySem.EqNone.eq_none_int (fin_bl I q (by simp))
    | str j => obtain ⟨t', rfl⟩ := ry; exact PySem.EqNone.eq_none_str (fin_bl I q (by simp))
    | _ => exact absurd (show false = true from hs) Bool.false_ne_true
  | bl i =>
    cases rx
    cases y with
    | non => cases ry; exact PySem.EqNone.eq_bool_none (fin_bl I q (by simp))
    | bl j => cases ry; exact eq_bool (fin_bl I q dec_bl)
    | str j => obtain ⟨t', rfl⟩ := ry; exact PySem.EqMixed.eq_bool_str (fin_bl I q (by simp))
    | _ => exact absurd (show false = true from hs) Bool.false_ne_true
  | int i =>
    obtain ⟨t, rfl⟩ := rx
    cases y with
    | non => cases ry; exact PySem.EqNone.eq_int_none (fin_bl I q (by simp))
    | int j => obtain ⟨t', rfl⟩ := ry; exact eq_int (fin_bl I q dec_int)
    | str j => obtain ⟨t', rfl⟩ := ry; exact PySem.EqMixed.eq_int_str (fin_bl I q (by simp))
    | _ => exact absurd (show false = true from hs) Bool.false_ne_true
  | str i =>
    obtain ⟨t, rfl⟩ := rx
    cases y with
    | non => cases ry; exact PySem.EqNone.eq_str_none (fin_bl I q (by simp))
    | bl j => cases ry; exact PySem.EqMixed.eq_str_bool (fin_bl I q (by simp))
    | int j => obtain ⟨t', rfl⟩ := ry; exact PySem.EqMixed.eq_str_int (fin_bl I q (by simp))
    | str j => obtain ⟨t', rfl⟩ := ry; exact eq_str (fin_bl I q dec_str)
    | _ => exact absurd (show false = true from hs) Bool.false_ne_true
  | byt i =>
    obtain ⟨t, rfl⟩ := rx
    cases y with
    | byt j => obtain ⟨t', rfl⟩ := ry; exact PySem.W.eq_bytes (fin_bl I q dec_byt)
    | _ => exact absurd (show false = true from hs) Bool.false_ne_true
  | _ => cases y <;> exact absurd (show false = true from hs) Bool.false_ne_true
theorem op_ne : OpR X (compareOp .NotEq) rNe := by
  intro pins s σ H x y v u Q I rx ry h
  obtain ⟨hs, q⟩ := h
  cases x with
  | non =>
    cases rx
    cases y with
    | non => cases ry; exact PySem.EqNone.ne_none_none (fin_bl I q (by simp))
    | bl j => cases ry; exact PySem.EqNone.ne_none_bool (fin_bl I q (by simp))
    | int j => obtain ⟨t', rfl⟩ := ry; exact PySem.EqNone.ne_none_int (fin_bl I q (by simp))
    | str j => obtain ⟨t', rfl⟩ := ry; exact PySem.EqNone.ne_none_str (fin_bl I q (by simp))
    | _ => exact absurd (show false = true from hs) Bool.false_ne_true
  | bl i =>
    cases rx
    cases y with
    | non => cases ry; exact PySem.EqNone.ne_bool_none (fin_bl I q (by simp))
    | bl j => cases ry; exact ne_bool (fin_bl I q (congrArg not dec_bl))
    | str j => obtain ⟨t', rfl⟩ := ry; exact PySem.EqMixed.ne_bool_str (fin_bl I q (by simp))
    | _ => exact absurd (show false = true from hs) Bool.false_ne_true
  | int i =>
    obtain ⟨t, rfl⟩ := rx
    cases y with
    | non => cases ry; exact PySem.EqNone.ne_int_none (fin_bl I q (by simp))
    | int j => obtain ⟨t', rfl⟩ := ry; exact ne_int (fin_bl I q (congrArg not dec_int))
    | str j => obtain ⟨t', rfl⟩ := ry; exact PySem.EqMixed.ne_int_str (fin_bl I q (by simp))
    | _ => exact absurd (show false = true from hs) Bool.false_ne_true
  | str i =>
    obtain ⟨t, rfl⟩ := rx
    cases y with
    | non => cases ry; exact PySem.EqNone.ne_str_none (fin_bl I q (by simp))
    | bl j => cases ry; exact PySem.EqMixed.ne_str_bool (fin_bl I q (by simp))
    | int j => obtain ⟨t', rfl⟩ := ry; exact PySem.EqMixed.ne_str_int (fin_bl I q (by simp))
    | str j => obtain ⟨t', rfl⟩ := ry; exact ne_str (fin_bl I q (congrArg not dec_str))
    | _ => exact absurd (show false = true from hs) Bool.false_ne_true
  | byt i =>
    obtain ⟨t, rfl⟩ := rx
    cases y with
    | byt j => obtain ⟨t', rfl⟩ := ry; exact PySem.W.ne_bytes (fin_bl I q (congrArg not dec_byt))
    | _ => exact absurd (show false = true from hs) Bool.false_ne_true
  | _ => cases y <;> exact absurd (show false = true from hs) Bool.false_ne_true

theorem op_lt : OpR X (compareOp .Lt) (rI0 fun i j => .bl (decide (i < j))) := opB0 fun _ _ _ _ _ _ _ q => lt_int q
theorem op_le : OpR X (compareOp .LtE) (rI0 fun i j => .bl (decide (i ≤ j))) := opB0 fun _ _ _ _ _ _ _ q => le_int q
theorem op_gt : OpR X (compareOp .Gt) (rI0 fun i j => .bl (decide (j < i))) := opB0 fun _ _ _ _ _ _ _ q => gt_int q
theorem op_ge : OpR X (compareOp .GtE) (rI0 fun i j => .bl (decide (j ≤ i))) := opB0 fun _ _ _ _ _ _ _ q => ge_int q
theorem op_notin_str : OpR X (compareOp .NotIn) (fun x y H Q => ∃ i j, x = .str i ∧ y = .str j ∧ Q (.bl (!(!(Builtin.Str.occurrences j i 0 j.length 1).isEmpty))) H) := by
  intro pins s σ H x y v u Q I rx ry h
  obtain ⟨i, j, rfl, rfl, q⟩ := h
  obtain ⟨t, rfl⟩ := rx
  obtain ⟨t', rfl⟩ := ry
  exact notIn_str (fin_bl I q rfl)
theorem OpR.or {f : Value → Value → Sem Value} {r r' : R2} (h : OpR X f r) (h' : OpR X f r') : OpR X f (fun x y H Q => r x y H Q ∨ r' x y H Q) := by
  intro pins s σ H x y v u Q I rx ry q
  rcases q with q | q
  · exact h pins s σ H x y v u Q I rx ry q
  · exact h' pins s σ H x y v u Q I rx ry q

theorem nomark (b : Expr) {op : CmpOp} (h : op ≠ .In := by decide) (h2 : op ≠ .NotIn := by decide) : behindInMarks op b = false := by
  have e1 : (op == CmpOp.In) = false := by cases op <;> first | rfl | exact absurd rfl h
  have e2 : (op == CmpOp.NotIn) = false := by cases op <;> first | rfl | exact absurd rfl h2
  cases b <;> simp [behindInMarks, e1, e2]
theorem pe_cmpR {op : CmpOp} {r : R2} (ho : OpR X (compareOp op) r) (ha : PE X a ta) (hb : PE X b tb) (hm : behindInMarks op b = false) : PE X (.Compare a [op] [b] pos) (tOp r ta tb) := by
  intro pins s σ H Q I h
  exact wpAny_Compare1 (binT ha hb I h fun v u s2 x y H2 I2 rx ry q => ho pins s2 σ H2 x y v u Q I2 rx ry q) hm
noncomputable def tTest (t : TE) : TT := fun σ H Q => t σ H fun x H' => ∃ k, x = .bl k ∧ Q k H'
theorem pt_cmpR {op : CmpOp} {r : R2} (ho : OpR X (compareOp op) r) (ha : PE X a ta) (hb : PE X b tb) (hm : behindInMarks op b = false) : PT X (.Compare a [op] [b] pos) (tTest (tOp r ta tb)) := by
  intro pins s σ H Q I h
  refine wpAny_isTrue_Compare1 (thn (ha pins s σ H _ I h) fun v s1 ⟨x, H1, I1, r1, q1⟩ => thn (hb pins s1 σ H1 _ I1 q1) fun u s2 ⟨y, H2, I2, r2, q2⟩ =>
    thn (ho pins s2 σ H2 x y v u _ I2 r1 r2 q2) fun c s3 ⟨z, H3, I3, r3, k, e, q3⟩ => ?_) hm
  subst e
  cases r3
  exact wpAny_truthy_bool ⟨H3, I3, q3⟩
noncomputable def tChain (r r' : R2) (ta tb tc : TE) : TE := fun σ H Q => ta σ H fun x H1 => tb σ H1 fun y H2 => r x y H2 fun z H3 => ∃ k, z = .bl k ∧
  (if k = true then tc σ H3 fun w' H4 => r' y w' H4 Q else Q (.bl false) H3)
theorem pe_chain {op op' : CmpOp} {r r' : R2} (ho : OpR X (compareOp op) r) (ho' : OpR X (compareOp op') r') (ha : PE X a ta) (hb : PE X b tb) (hc : PE X c tc)
    (hm : lastMarks [op, op'] [b, c] = false := by with_unfolding_all rfl) : PE X (.Compare a [op, op'] [b, c] pos) (tChain r r' ta tb tc) := by
  intro pins s σ H Q I h
  refine Compare_chain (thn (ha pins s σ H _ I h) fun v s1 ⟨x, H1, I1, r1, q1⟩ => chain_link (thn (hb pins s1 σ H1 _ I1 q1) fun u s2 ⟨y, H2, I2, r2, q2⟩ =>
    thn (ho pins s2 σ H2 x y v u _ I2 r1 r2 q2) fun d s3 ⟨z, H3, I3, r3, k, e, q3⟩ => ?_)) hm
  subst e
  cases r3
  refine wpAny_truthy_bool ?_
  cases k with
  | false => exact ite_ff ⟨.bl false, H3, I3, rfl, q3⟩
  | true => exact ite_tt (chain_last (thn (hc pins s3 σ H3 _ I3 q3) fun w' s4 ⟨z', H4, I4, r4, q4⟩ => ho' pins s4 σ H4 y z' u w' Q I4 r2 r4 q4))
theorem line63 : (sizeLine : Nat) < 2 ^ 63 := by rw [sizeLine_eq]; decide
theorem vals1 {x : V} {us : List Value} (r : Vals [x] us) : ∃ u, us = [u] ∧ RelV x u := by
  cases r with
  | cons r1 r2 => cases r2; exact ⟨_, rfl, r1⟩
theorem call_str_int : CallR X (.type "str") (fun xs H Q => ∃ i, xs = [.int i] ∧ i.natAbs.log2 < 1920 ∧ Q (.str (toString i)) H) := by
  intro pins s σ H xs us Q I r h
  obtain ⟨i, rfl, hz, q⟩ := h
  obtain ⟨u, rfl, t, rfl⟩ := vals1 r
  exact PySem.P.str_of_int hz ⟨.str _, H, I.tok _, ⟨_, rfl⟩, q⟩
end
end L2

namespace L2
open PySem PySem.Spec PyProof.Rows

structure ObjM (h : Heap) (x dx C : Addr) (mA : Str → Option Value) : Prop where
  obj : h.get? x = some (PySem.W.instObj C dx)
  ns : h.Ns1 dx mA
  ne : dx ≠ x

theorem lookIn_ns {h : Heap} {dx : Addr} {mA : Str → Option Value} (n : h.Ns1 dx mA) : ∃ od, h.get? dx = some od ∧ ∀ name, PySem.W.lookIn name od = some (mA name) := by
  obtain ⟨o, es, ep, ho, hd, hk, _, hm⟩ := n
  refine ⟨o, ho, fun name => ?_⟩
  have e := hm name
  unfold nsFind findBy at e
  rw [← Array.find?_toList] at e
  unfold PySem.W.lookIn
  rw [hd]
  dsimp only
  split
  · rename_i y q
    rw [q] at e
    exact congrArg some e
  · rename_i q
    rw [q] at e
    have a : es.toList.any (·.refKey) = false := by
      rw [List.any_eq_false]
      intro y hy
      obtain ⟨z, t, hkey⟩ := hk y (Array.mem_toList_iff.mp hy)
      simp [DictEntry.refKey, hkey]
    have a' : ¬ es.toList.any (·.refKey) = true := by rw [a]; exact Bool.false_ne_true
    rw [if_neg a']
    exact congrArg some e

theorem ObjM.look {h : Heap} {x dx C : Addr} {mA : Str → Option Value} (I : ObjM h x dx C mA) : ∃ od, PySem.W.InstAt h x (PySem.W.instObj C dx) C (some od) ∧ ∀ name, PySem.W.lookIn name od = some (mA name) :=
  let ⟨od, ho, hl⟩ := lookIn_ns I.ns
  ⟨od, ⟨I.obj, rfl, rfl, ho⟩, hl⟩

section
variable {prog : Program} {w : World} {A : Around} {E : Value → Shared → Prop} {s : Shared} {K : PySem.W.Frag} {x dx C f : Addr} {mA : Str → Option Value} {name : Str} {v : Value}

end

theorem RelO.some_of {v : V} {o : Option Value} (r : RelO (some v) o) : ∃ u, o = some u ∧ RelV v u := by
  cases o with
  | none => exact (show False from r).elim
  | some u => exact ⟨u, rfl, r⟩
section
variable {P : Program} {w : World} {H H' : Hp} {h h' : Heap} {a C dx : Addr} {fs fs' : List (Str × V)}
end

structure Cls (K : PySem.W.Frag) (C : Addr) : Prop where
  pg : PySem.W.plainGet K C Str.empty = true
  hd : PySem.W.hasDictIn K C = true
  po : PySem.W.plainOver K C = true
  sa : PySem.W.findIn K (.ref C) "__setattr__" = some (some (.builtin "object.__setattr__"))
theorem Cls.get {K : PySem.W.Frag} {C : Addr} (c : Cls K C) (f : Str) : PySem.W.plainGet K C f = true := c.pg
section
variable {X : Cx} {pins : List (Addr × Obj)} {σ : St} {H : Hp} {s : Shared} {a C dx : Addr} {fs : List (Str × V)} {f : Str} {v : V} {A : Around} {E : Value → Shared → Prop}

theorem Inv.made (I : Inv X pins σ H s) : Inv X pins σ (upd (upd H s.heap.objs.size (.own (s.heap.objs.size + 1))) (s.heap.objs.size + 1) (.ins C s.heap.objs.size []))
    { s with heap := (s.heap.push PySem.W.emptyDict).push (PySem.W.instObj C s.heap.objs.size) } := by
  have e1 : (s.heap.push PySem.W.emptyDict).get? s.heap.objs.size = some PySem.W.emptyDict := Heap.get?_push_size s.heap rfl
  have e2 : ((s.heap.push PySem.W.emptyDict).push (PySem.W.instObj C s.heap.objs.size)).get? (s.heap.objs.size + 1) = some (PySem.W.instObj C s.heap.objs.size) := by
    have := Heap.get?_push_size (s.heap.push PySem.W.emptyDict) (o := PySem.W.instObj C s.heap.objs.size) rfl
    rwa [Heap.size_push] at this
  have e3 : (s.heap.push PySem.W.emptyDict).Ns s.heap.objs.size (fun _ => none) := ⟨PySem.W.emptyDict, #[], _, e1, rfl, (fun e he => absurd he (by simp)), fun _ => rfl⟩
  have I1 := I.laid (a := s.heap.objs.size) (o := .own (s.heap.objs.size + 1)) (h' := s.heap.push PySem.W.emptyDict) (t' := s.toks) (fun b u q => Heap.get?_push_of_some _ q) (Nat.le_refl _) ⟨_, e1⟩
  refine I1.laid (a := s.heap.objs.size + 1) (o := .ins C s.heap.objs.size []) (t' := s.toks) (fun b u q => Heap.get?_push_of_some _ q) (Nat.le_of_eq (Heap.size_push _ _)) ?_
  have ne : s.heap.objs.size ≠ s.heap.objs.size + 1 := Nat.ne_of_lt (Nat.lt_succ_self _)
  refine ⟨by rw [upd_ne ne, upd_same], Nat.zero_le _, ne, e2, fun _ => none, (Heap.Ns1.of_empty e3).at fun o q => Heap.get?_push_of_some _ q, fun _ => True.intro, fun y hy => absurd rfl hy⟩

end

section
variable {X : Cx} {o e value : Expr} {f : Str} {pos pos' tpos : Pos} {ta tv : TE}
end

section
variable {X : Cx} {pins : List (Addr × Obj)} {σ : St} {H : Hp} {s : Shared} {A : Around} {E : Value → Shared → Prop} {Q : Value → Shared → Prop} {c : Value} {b : Bool}
end
end L2

namespace L2
open PySem PySem.Spec PyProof.Rows

structure Room (k : Nat) (A : Around) : Prop where
  hd : A.handled = none
  dp : A.depth + 3 * k + 5 < recursionLimit
  un : A.units + 16 * k + 200 < cLine
theorem Room.mono {j k : Nat} {A : Around} (r : Room k A) (h : j ≤ k) : Room j A := ⟨r.hd, by have := r.dp; omega, by have := r.un; omega⟩
theorem Room.deeper {k : Nat} {A : Around} (r : Room (k + 1) A) (env : Env) : Room k (A.deeper env) :=
  ⟨r.hd, by have := r.dp; show A.depth + 1 + 3 * k + 5 < _; omega, by have := r.un; show A.units + 3 + 16 * k + 200 < _; omega⟩
theorem Room.in1 {k : Nat} {A : Around} (r : Room (k + 1) A) : Room k A.in1 :=
  ⟨r.hd, by have := r.dp; show A.depth + 3 * k + 5 < _; omega, by have := r.un; show A.units + 1 + 16 * k + 200 < _; omega⟩
theorem Room.depth {k : Nat} {A : Around} (r : Room k A) : A.depth < recursionLimit := by have := r.dp; omega
theorem Room.units {k : Nat} {A : Around} (r : Room k A) : A.units + 64 < cLine := by have := r.un; omega
noncomputable def tNil : TA := fun _ H Q => Q [] H
noncomputable def tCons (ta : TE) (tr : TA) : TA := fun σ H Q => ta σ H fun x H1 => tr σ H1 fun xs H2 => Q (x :: xs) H2
section
variable {X : Cx} {e : Expr} {es : List Expr} {te : TE} {t : TA} {pos : Pos}
theorem pa_nil : PA X [] tNil := fun _ _ _ _ H Q I h => Calls.spliced_nil ⟨[], H, I, .nil, h⟩
theorem pa_cons (ha : PE X e te) (hr : PA X es t) (hs : starEach (e :: es) X.env = (false, eval e X.env) :: starEach es X.env := by rfl) : PA X (e :: es) (tCons te t) := by
  intro pos pins s σ H Q I h
  rw [hs]
  show wpAny _ _ (spliced ((false, eval e X.env) :: backTo pos (starEach es X.env))) _ _ s
  refine Calls.spliced_cons (thn (ha pins s σ H _ I h) fun u s1 ⟨x, H1, I1, r1, q1⟩ => ?_)
  exact thn (hr pos pins s1 σ H1 _ I1 q1) fun us s2 ⟨xs, H2, I2, r2, q2⟩ => ⟨x :: xs, H2, I2, .cons r1 r2, q2⟩

noncomputable def tTup (t : TA) : TE := fun σ H Q => t σ H fun xs H1 => xs.length ≤ sizeLine ∧ ∀ p, H1 p = none → Q (.ref p) (upd H1 p (.tup xs))
noncomputable def tLst (t : TA) : TE := fun σ H Q => t σ H fun xs H1 => xs.length ≤ sizeLine ∧ ∀ p, H1 p = none → Q (.ref p) (upd H1 p (.lst xs))
theorem pe_tup {x1} (h : PA X es t) : PE X (.Tuple es x1 pos) (tTup t) := by
  intro pins s σ H Q I hq
  refine wpAny_Tuple_spliced (thn (h pos pins s σ H _ I hq) fun us s1 ⟨xs, H1, I1, r, z, q⟩ => ⟨by rw [← r.length]; exact z, ?_⟩)
  have hf : H1 s1.heap.objs.size = none := I1.hok.fresh (Nat.le_refl _)
  refine ⟨.ref s1.heap.objs.size, upd H1 s1.heap.objs.size (.tup xs), I1.laid (t' := s1.toks) (fun b u e => Heap.get?_push_of_some _ e) (Nat.le_refl _) ?_, rfl, q _ hf⟩
  exact ⟨z, us, r, ⟨_, Heap.get?_push_size _ rfl, rfl, _, rfl⟩⟩
theorem pe_lst (h : PA X es t) : PE X (.List es pos) (tLst t) := by
  intro pins s σ H Q I hq
  refine wpAny_List_spliced (thn (h pos pins s σ H _ I hq) fun us s1 ⟨xs, H1, I1, r, z, q⟩ => ⟨by rw [← r.length]; exact z, ?_⟩)
  have hf : H1 s1.heap.objs.size = none := I1.hok.fresh (Nat.le_refl _)
  refine ⟨.ref s1.heap.objs.size, upd H1 s1.heap.objs.size (.lst xs), I1.laid (t' := s1.toks) (fun b u e => Heap.get?_push_of_some _ e) (Nat.le_refl _) ?_, rfl, q _ hf⟩
  exact ⟨z, us, 0, r, Heap.get?_push_size _ rfl⟩
end

noncomputable abbrev Sp := List V → Hp → VK → XK → Prop
noncomputable abbrev CXT := List Env → Hp → Shared → XK → Value → Shared → Prop

structure Env0 (P : Program) (w : World) (K : PySem.W.Frag) (mg : Str → Option Value) (base : Heap) (A : Around) (outer : List Env) (s : Shared) (H : Hp) : Prop where
  frames : A.frames = some outer
  mod : Mod K mg base
  bs : ∀ b o, base.get? b = some o → s.heap.get? b = some o ∧ H b = none
  bsz : base.objs.size ≤ s.heap.objs.size
  funs : s.heap.FunFrames base outer
  frf : ∀ b ∈ frs outer, H b = none
  hok : HOk P w H s.heap
  bare : AllBare s.gens
noncomputable def CE (outer : List Env) (P : Program) (w : World) (H : Hp) (s : Shared) (Q : VK) (u : Value) (s' : Shared) : Prop :=
  ∃ v H', s'.os = s.os ∧ AllBare s'.gens ∧ Un (frs outer) [] H H' s.heap s'.heap ∧ HOk P w H' s'.heap ∧ RelV v u ∧ Q v H'
noncomputable def CR (CX : CXT) (outer : List Env) (P : Program) (w : World) (H : Hp) (s : Shared) (Q : VK) (E : XK) (r : Result) (s' : Shared) : Prop :=
  match r with
  | .ok (.ret u) => CE outer P w H s Q u s'
  | .ok _ => False
  | .error e => CX outer H s E e s'
structure FnOk (P : Program) (w : World) (K : PySem.W.Frag) (mg : Str → Option Value) (base : Heap) (CX : CXT) (k : Nat) (f : Addr) (fd : FuncData) (ps : List Str) (sp : Sp) : Prop where
  len : ∀ vs H Q E, sp vs H Q E → vs.length = ps.length
  run : ∀ (A : Around) (outer : List Env) (s : Shared) (H : Hp) (args : Args) (us : List Value) (vs : List V) (Q : VK) (E : XK), Room k A → Env0 P w K mg base A outer s H → BindsTo s fd args (ps.zip us) → Vals vs us → sp vs H Q E →
    codeAny (model P w) A (.call (.ref f) args) (CR CX outer P w H s Q E) s
theorem FnOk.mono {P : Program} {w : World} {K : PySem.W.Frag} {mg : Str → Option Value} {base : Heap} {CX : CXT} {j k : Nat} {f : Addr} {fd : FuncData} {ps : List Str} {sp : Sp} (F : FnOk P w K mg base CX j f fd ps sp) (h : j ≤ k) :
    FnOk P w K mg base CX k f fd ps sp := ⟨F.len, fun A outer s H args us vs Q E hr => F.run A outer s H args us vs Q E (hr.mono h)⟩
theorem FnOk.imp {P : Program} {w : World} {K : PySem.W.Frag} {mg : Str → Option Value} {base : Heap} {CX : CXT} {k : Nat} {f : Addr} {fd : FuncData} {ps : List Str} {sp sp' : Sp} (F : FnOk P w K mg base CX k f fd ps sp)
    (h : ∀ vs H Q E, sp' vs H Q E → sp vs H Q E) : FnOk P w K mg base CX k f fd ps sp' :=
  ⟨fun vs H Q E q => F.len vs H Q E (h _ _ _ _ q), fun A outer s H args us vs Q E hr he hb hv hs => F.run A outer s H args us vs Q E hr he hb hv (h _ _ _ _ hs)⟩

theorem Env0.in1 {P : Program} {w : World} {K : PySem.W.Frag} {mg : Str → Option Value} {base : Heap} {A : Around} {outer : List Env} {s : Shared} {H : Hp} (e : Env0 P w K mg base A outer s H) :
    Env0 P w K mg base A.in1 outer s H := ⟨e.frames, e.mod, e.bs, e.bsz, e.funs, e.frf, e.hok, e.bare⟩

section
variable {X : Cx} {pins : List (Addr × Obj)} {σ : St} {H : Hp} {s s' : Shared}
theorem Inv.env0 (I : Inv X pins σ H s) : Env0 X.prog X.w X.K X.mg X.base X.A X.stack s H :=
  ⟨I.ok.frames, I.ok.mod, I.bs, Nat.le_trans I.ok.bsz I.sz, I.stack, I.stkFree, I.hok, I.bare⟩
theorem Inv.after {Q : VK} {u : Value} (I : Inv X pins σ H s) (h : CE X.stack X.prog X.w H s Q u s') : EP X pins σ Q u s' := by
  obtain ⟨v, H', os, bare, un, hok, r, q⟩ := h
  obtain ⟨hh, g, d, t, os'⟩ := s'
  obtain rfl : os' = s.os := os
  exact ⟨v, H', I.call (h' := hh) (g' := g) (d' := d) (t' := t) (ch := []) un hok bare (fun b z => absurd z (by simp)), r, q⟩
end

noncomputable def tCall (sp : Sp) (dvs : List V) (E : XK) (t : TA) : TE := fun σ H Q => t σ H fun vs H1 => sp (vs ++ dvs) H1 Q E
noncomputable def Binds (K : PySem.W.Frag) (fd : FuncData) (ps : List Str) (ds : List Value) : Prop :=
  ∀ (s : Shared) (us : List Value), K.In s.heap → (us ++ ds).length = ps.length → BindsTo s fd ⟨us, []⟩ (ps.zip (us ++ ds))
theorem Binds.all {K : PySem.W.Frag} {fd : FuncData} {ps : List Str} (h : ∀ us : List Value, us.length = ps.length → bindArgs fd ⟨us, []⟩ = pure (ps.zip us)) : Binds K fd ps [] := fun s us _ hl => by
  rw [List.append_nil] at hl ⊢
  exact .of_eq (h us hl)

noncomputable def Passes (CX : CXT) (X : Cx) (E : XK) : Prop := ∀ (pins : List (Addr × Obj)) (σ : St) (H : Hp) (s : Shared) (e : Value) (s' : Shared), Inv X pins σ H s → CX X.stack H s E e s' → X.xe e s'

section
variable {X : Cx} {CX : CXT} {k : Nat} {f C : Addr} {fd : FuncData} {ps : List Str} {sp : Sp} {dvs : List V} {ds : List Value} {E : XK} {x m : Str} {p pos apos : Pos} {e o : Expr} {es : List Expr} {ta : TE} {t : TA}

theorem run_fn {pins : List (Addr × Obj)} {σ : St} {H : Hp} {s : Shared} {Q : VK} {us : List Value} {vs : List V} (F : FnOk X.prog X.w X.K X.mg X.base CX k f fd ps sp) (hr : Room k X.A) (hb : Binds X.K fd ps ds) (hd : Vals dvs ds) (hx : Passes CX X E)
    (I : Inv X pins σ H s) (r : Vals vs us) (h : sp (vs ++ dvs) H Q E) : wpAny (model X.prog X.w) X.A (call (.ref f) us) (EP X pins σ Q) X.xe s := by
  have r2 : Vals (vs ++ dvs) (us ++ ds) := r.append hd
  have hl : (us ++ ds).length = ps.length := by rw [← r2.length]; exact F.len _ _ _ _ h
  refine wpAny_call (codeAny_mono (F.run X.A X.stack s H ⟨us, []⟩ (us ++ ds) (vs ++ dvs) Q E hr I.env0 (hb s us I.kIn hl) r2 h) fun r s' hq => ?_)
  cases r with
  | error e => exact hx pins σ H s e s' I hq
  | ok fl =>
    cases fl with
    | ret u => exact I.after hq
    | next => exact False.elim hq
    | brk => exact False.elim hq
    | cont => exact False.elim hq

theorem pe_call (F : FnOk X.prog X.w X.K X.mg X.base CX k f fd ps sp) (hr : Room k X.A) (hg : Gl X x) (hm : X.mg x = some (.ref f)) (hk : PySem.W.keepIn X.K (.ref f) = true) (hb : Binds X.K fd ps ds) (hd : Vals dvs ds) (hx : Passes CX X E)
    (ha : PA X (e :: es) t) (hdb : (x == ("__debug__" : Str)) = false := by decide) (he : starEach (e :: es) X.env = (false, eval e X.env) :: starEach es X.env := by rfl) (hpl : (backTo pos (starEach es X.env)).any (·.1) = false := by rfl) :
    PE X (.Call (.Name x p) (e :: es) [] pos) (tCall sp dvs E t) := by
  intro pins s σ H Q I h
  refine wpAny_Call_Name_kw (ld_glob I hg hm ?_ hdb)
  refine PySem.W.callWith_K (h₀ := X.base) I.ok.mod.kin hk (thn (ha pos pins s σ H _ I h) fun us s1 ⟨vs, H1, I1, r, q⟩ => ⟨I1.kIn, ?_⟩) he hpl
  exact run_fn F hr hb hd hx I1 r q
end

section
variable {X : Cx} {CX : CXT} {k : Nat} {f C : Addr} {fd : FuncData} {ps ks : List Str} {sp : Sp} {E : XK} {x m : Str} {p pos apos kpos : Pos} {e o : Expr} {es : List Expr} {kws : List Keyword} {te ta : TE} {t tk : TA} {nm : Option Str}
variable {g : List Value → List Value → List Value} {gV : List V → List V → List V}
end

structure FnScope (N P : List Str) (sc : Scope) : Prop where
  kind : sc.kind = .function
  co : sc.isCoroutine = false
  gen : sc.isGenerator = false
  nd : N.Nodup
  pre : N.take P.length = P
  par : ∀ x ∈ P, sc.names.lookup x = some .local ∨ sc.names.lookup x = some .cell
  nofree : ∀ y ∈ sc.names, y.2 ≠ .free

theorem bindL_out {kindOf : Str → Option NameKind} {x : Str} : ∀ {binds : List (Str × Value)} {m : Str → Option Value}, (∀ v, (x, v) ∉ binds) → bindL kindOf binds m x = m x
  | [], _, _ => rfl
  | (n, v) :: r, m, h => by
    unfold bindL
    rw [bindL_out fun w hw => h w (List.mem_cons_of_mem _ hw)]
    split
    · have : x ≠ n := by rintro rfl; exact h v List.mem_cons_self
      simp [this]
    · rfl
theorem bindC_out {kindOf : Str → Option NameKind} {x : Str} : ∀ {binds : List (Str × Value)} {m : Str → Option Value}, (∀ v, (x, v) ∉ binds) → bindC kindOf binds m x = m x
  | [], _, _ => rfl
  | (n, v) :: r, m, h => by
    unfold bindC
    rw [bindC_out fun w hw => h w (List.mem_cons_of_mem _ hw)]
    split
    · rfl
    · have : x ≠ n := by rintro rfl; exact h v List.mem_cons_self
      simp [this]
theorem bindL_get {kindOf : Str → Option NameKind} {x : Str} {v : Value} : ∀ {P : List Str} {vs : List Value} {i : Nat} {m : Str → Option Value}, P.Nodup → P[i]? = some x → vs[i]? = some v → kindOf x = some .local →
    bindL kindOf (P.zip vs) m x = some v
  | [], _, _, _, _, h, _, _ => by simp at h
  | _ :: _, [], _, _, _, _, h, _ => by simp at h
  | p :: P, w :: vs, 0, m, nd, h1, h2, hk => by
    simp at h1 h2; subst h1; subst h2
    show bindL kindOf ((p, w) :: P.zip vs) m p = _
    unfold bindL
    rw [bindL_out fun v hv => (List.nodup_cons.mp nd).1 (List.of_mem_zip hv).1, if_pos hk]
    simp
  | p :: P, w :: vs, i + 1, m, nd, h1, h2, hk => by
    show bindL kindOf ((p, w) :: P.zip vs) m x = _
    unfold bindL
    exact bindL_get (i := i) (List.nodup_cons.mp nd).2 (by simpa using h1) (by simpa using h2) hk
theorem bindC_get {kindOf : Str → Option NameKind} {x : Str} {v : Value} : ∀ {P : List Str} {vs : List Value} {i : Nat} {m : Str → Option Value}, P.Nodup → P[i]? = some x → vs[i]? = some v → kindOf x ≠ some .local →
    bindC kindOf (P.zip vs) m x = some v
  | [], _, _, _, _, h, _, _ => by simp at h
  | _ :: _, [], _, _, _, _, h, _ => by simp at h
  | p :: P, w :: vs, 0, m, nd, h1, h2, hk => by
    simp at h1 h2; subst h1; subst h2
    show bindC kindOf ((p, w) :: P.zip vs) m p = _
    unfold bindC
    rw [bindC_out fun v hv => (List.nodup_cons.mp nd).1 (List.of_mem_zip hv).1, if_neg hk]
    simp
  | p :: P, w :: vs, i + 1, m, nd, h1, h2, hk => by
    show bindC kindOf ((p, w) :: P.zip vs) m x = _
    unfold bindC
    exact bindC_get (i := i) (List.nodup_cons.mp nd).2 (by simpa using h1) (by simpa using h2) hk

noncomputable def start (N : List Str) (vs : List V) : St := vs.map some ++ List.replicate (N.length - vs.length) none

noncomputable def cxOf (CX : CXT) (P : Program) (w : World) (K : PySem.W.Frag) (mg : Str → Option Value) (base : Heap) (N : List Str) (qual : Str) (scope : Scope) (f : Addr) (cd : Value) (A : Around) (outer : List Env) (s : Shared) (H : Hp) (E : XK) : Cx where
  prog := P
  w := w
  K := K
  mg := mg
  base := base
  A := A.deeper (envOfC qual scope s.heap.objs.size f cd)
  N := N
  s₀ := s
  H₀ := H
  env := envOfC qual scope s.heap.objs.size f cd
  outer := outer
  stack := envOfC qual scope s.heap.objs.size f cd :: outer
  ex := []
  calm := true
  fn := fun _ => true
  pn := []
  xe := fun e s' => wpAny (model P w) (A.deeper (envOfC qual scope s.heap.objs.size f cd)) (leaving (envOfC qual scope s.heap.objs.size f cd) e) (fun _ s'' => CX outer H s E e s'') (fun e' s'' => CX outer H s E e' s'') s'

theorem cell_has {sc : Scope} {n : Nat} {x : Str} (h : sc.names.lookup x = some .cell) : ∃ c, (cellsFrom n sc.names []).lookup x = some c := by
  have q := PySem.W.cellsFrom_some sc.names n [] (.inl h)
  exact Option.isSome_iff_exists.mp q

theorem inv_start {CX : CXT} {P : Program} {w : World} {K : PySem.W.Frag} {mg : Str → Option Value} {base : Heap} {N ps : List Str} {qual : Str} {scope : Scope} {f : Addr} {cd : Value} {A : Around} {outer : List Env} {s s1 : Shared} {H : Hp} {E : XK} {us : List Value} {vs : List V}
    (S : FnScope N ps scope) (hd : A.handled = none) (e0 : Env0 P w K mg base A outer s H) (hl : vs.length = ps.length) (r : Vals vs us)
    (x : InCallC s s.heap.objs.size (bindL (envOfC qual scope s.heap.objs.size f cd).kindOf (ps.zip us) fun _ => none) (cellsFrom (s.heap.objs.size + 1) scope.names []) (bindC (envOfC qual scope s.heap.objs.size f cd).kindOf (ps.zip us) fun _ => none) s1) :
    Inv (cxOf CX P w K mg base N qual scope f cd A outer s H E) [] (start N vs) H s1 := by
  have hpl : ps.length ≤ N.length := by have := congrArg List.length S.pre; rw [List.length_take] at this; omega
  obtain ⟨h1, tk, rfl, hk⟩ := x.done
  have noA : ∀ b : Addr, b ∉ (cxOf CX P w K mg base N qual scope f cd A outer s H E).ex := fun b z => absurd (show b ∈ ([] : List Addr) from z) (by simp)
  refine ⟨⟨e0.mod, S.kind, rfl, rfl, Nat.le_refl _, fun y z c h1 h2 => ?_, fun y hy => ?_, fun y c _ h => ?_, fun _ => hd, Around.frames_deeper e0.frames, .inr ⟨rfl, rfl⟩, fun b z => absurd z (noA b), e0.bs, e0.bsz, fun b _ _ => noA b, fun b z => absurd z (noA b), e0.funs, e0.frf⟩,
    rfl, e0.bare, Un.kept hk, ⟨_, x.toInCall.ns, fun i y v h1 h2 h3 => ?_⟩, fun y c h => ⟨_, x.cell y c h⟩, e0.hok.fresh (Nat.le_refl _), fun y c h => ?_, fun p hp => absurd (show p ∈ ([] : List (Addr × Obj)) from hp) (by simp), e0.hok.kept hk, ?_⟩
  · exact name_of_addr x.apart (PySem.mem_of_lookup h1) (PySem.mem_of_lookup h2)
  · have hy : scope.names.lookup y = some .cell ∨ scope.names.lookup y = some .free := hy
    rcases hy with hy | hy
    · exact cell_has hy
    · exact absurd rfl (S.nofree _ (PySem.mem_of_lookup hy))
  · exact Nat.le_of_lt (x.above y c (PySem.mem_of_lookup h))
  · have hi : i < vs.length := by
      unfold start at h2
      by_cases hi : i < vs.length
      · exact hi
      · rw [List.getElem?_append_right (by simpa using hi)] at h2
        rw [List.getElem?_replicate] at h2
        split at h2 <;> cases h2
    have ha : vs[i]? = some v := by
      unfold start at h2
      rw [List.getElem?_append_left (by simpa using hi), List.getElem?_map] at h2
      cases e : vs[i]? with
      | none => rw [e] at h2; cases h2
      | some a => rw [e] at h2; cases h2; rfl
    obtain ⟨u, hu, rv⟩ := r.get ha
    have hp : ps[i]? = some y := by
      rw [← S.pre, List.getElem?_take_of_lt (by omega)]; exact h1
    have ndP : ps.Nodup := by rw [← S.pre]; exact S.nd.sublist (List.take_sublist _ _)
    refine ⟨u, rv, ?_⟩
    rcases S.par y (List.mem_of_getElem? hp) with k | k
    · exact .inl ⟨k, bindL_get ndP hp hu k⟩
    · obtain ⟨c, e⟩ := cell_has (n := s.heap.objs.size + 1) k
      refine .inr ⟨.inl k, c, e, ?_⟩
      have q := x.cell y c e
      rw [bindC_get ndP hp hu (by show scope.names.lookup y ≠ _; rw [k]; decide)] at q
      exact q
  · exact e0.hok.fresh (Nat.le_of_lt (x.above y c (PySem.mem_of_lookup h)))
  · unfold start
    show _ = N.length
    rw [List.length_append, List.length_map, List.length_replicate]
    omega

theorem fn_of {CX : CXT} {P : Program} {w : World} {K : PySem.W.Frag} {mg : Str → Option Value} {base : Heap} {k : Nat} {f : Addr} {name qual : Str} {params : Arguments} {body : List Stmt} {scope : Scope} {dV kV doc pm cdv ct oc : Value} {an od : Option Addr}
    {osl : Array (Option Value)} {N ps : List Str} {sp : Sp} (lk : K.lookup f = some ⟨oc, od, .func (PySem.W.fnOf name qual params body scope dV kV doc pm an cdv ct), osl⟩) (hcd : PySem.W.codeIn K cdv qual = true) (S : FnScope N ps scope)
    (len : ∀ vs H Q E, sp vs H Q E → vs.length = ps.length)
    (hbody : ∀ (A : Around) (outer : List Env) (s : Shared) (H : Hp) (vs : List V) (Q : VK) (E : XK), Room k (A.deeper (envOfC qual scope s.heap.objs.size f cdv)) → sp vs H Q E →
      ∃ t, PSs (cxOf CX P w K mg base N qual scope f cdv A outer s H E) body t ∧ t { nx := fun _ H' => Q .non H', rt := Q } (start N vs) H) :
    FnOk P w K mg base CX (k + 1) f (PySem.W.fnOf name qual params body scope dV kV doc pm an cdv ct) ps sp := by
  refine ⟨len, fun A outer s H args us vs Q E hr e0 hb r hsp => ?_⟩
  have hl := len _ _ _ _ hsp
  have KX : K.In s.heap := e0.mod.kin.keeps fun b o e => (e0.bs b o e).1
  have lim : s.heap.NoLimit := e0.mod.nolimit.keeps fun b o e => (e0.bs b o e).1
  have hkind : ∀ y ∈ ps.zip us, scope.names.lookup y.1 = some .local ∨ (scope.names.lookup y.1 = some .cell ∧ ((cellsFrom (s.heap.objs.size + 1) scope.names []).lookup y.1).isSome = true) := fun ⟨n, v⟩ hy => by
    rcases S.par n (List.of_mem_zip hy).1 with q | q
    · exact .inl q
    · exact .inr ⟨q, PySem.W.cellsFrom_some _ _ _ (.inl q)⟩
  refine codeAny_call_function hr.depth (KX _ _ lk) rfl S.co S.gen rfl (PySem.W.codeRec_of KX hcd) (hb _ _ _ _ ?_)
  refine wpAny_newFunctionEnv_cells S.kind hkind fun env he s1 x => ?_
  subst he
  refine ⟨lim.keeps x.toInCall.keep, codeAny_func ?_⟩
  obtain ⟨t, ht, hq⟩ := hbody A outer s H vs Q E (hr.deeper _) hsp
  have I : Inv (cxOf CX P w K mg base N qual scope f cdv A outer s H E) [] (start N vs) H s1 := inv_start S hr.hd e0 hl r x
  refine wpAny_mono (ht [] s1 (start N vs) H _ I hq) (fun fl s' hs => ?_) fun e s' hs => hs
  have fin : ∀ {σ' : St} {H' : Hp} {v : V} {u : Value}, Inv (cxOf CX P w K mg base N qual scope f cdv A outer s H E) [] σ' H' s' → RelV v u → Q v H' → CE outer P w H s Q u s' :=
    fun {σ' H' v u} J rv q => ⟨v, H', J.os, J.bare, J.base, J.hok, rv, q⟩
  cases fl with
  | ret u =>
    obtain ⟨v, σ', H', J, rv, q⟩ := hs
    exact fin J rv q
  | next =>
    obtain ⟨σ', H', J, q⟩ := hs
    exact fin (v := V.non) (u := Value.none) J rfl q
  | brk =>
    obtain ⟨_, _, _, q⟩ := hs
    exact False.elim q
  | cont =>
    obtain ⟨_, _, _, q⟩ := hs
    exact False.elim q
end L2

namespace L2
open PySem PySem.Spec PyProof.Rows
section
variable {X : Cx} {x : Str} {p pos : Pos} {e : Expr} {es : List Expr} {t : TA} {id T : String} {r : List V → Hp → VK → Prop}

noncomputable def tCB (r : List V → Hp → VK → Prop) (t : TA) : TE := fun σ H Q => t σ H fun vs H1 => r vs H1 Q
theorem pe_callB (hc : CallR X (.builtin id) r) (hg : Gl X x) (hm : X.mg x = none) (hv : bootBuiltins x = some (.builtin id)) (ha : PA X (e :: es) t) (hn : x ≠ "__name__" := by decide) (hdb : (x == ("__debug__" : Str)) = false := by decide)
    (he : starEach (e :: es) X.env = (false, eval e X.env) :: starEach es X.env := by rfl) (hpl : (backTo pos (starEach es X.env)).any (·.1) = false := by rfl) : PE X (.Call (.Name x p) (e :: es) [] pos) (tCB r t) := by
  intro pins s σ H Q I h
  refine wpAny_Call_Name_kw (ld_blt I hg hm hv ?_ hn hdb)
  exact PyProof.Rows.callWith_builtin1 (thn (ha pos pins s σ H _ I h) fun us s1 ⟨vs, H1, I1, r1, q1⟩ => hc pins s1 σ H1 vs us Q I1 r1 q1) he hpl
theorem pe_callTy (hc : CallR X (.type T) r) (hg : Gl X x) (hm : X.mg x = none) (hv : bootBuiltins x = some (.type T)) (ha : PA X (e :: es) t) (hn : x ≠ "__name__" := by decide) (hdb : (x == ("__debug__" : Str)) = false := by decide)
    (he : starEach (e :: es) X.env = (false, eval e X.env) :: starEach es X.env := by rfl) (hpl : (backTo pos (starEach es X.env)).any (·.1) = false := by rfl) : PE X (.Call (.Name x p) (e :: es) [] pos) (tCB r t) := by
  intro pins s σ H Q I h
  refine wpAny_Call_Name_kw (ld_blt I hg hm hv ?_ hn hdb)
  exact PyProof.Rows.callWith_type1 (thn (ha pos pins s σ H _ I h) fun us s1 ⟨vs, H1, I1, r1, q1⟩ => hc pins s1 σ H1 vs us Q I1 r1 q1) he hpl
end
end L2

namespace HT
open PySem PyProof.Rows

section
open PySem.SeqAt
open PySem.AutoSeq1 (wpAny_loadPart')
open PySem.MeetsSeq PySem.MeetsSeq2 PySem.MeetsSeq3

end

section
variable {prog : Program} {w : World} {A : Around} {E : Value → Shared → Prop} {s : Shared}

theorem cat_tup {t b : Addr} {vs ws : List Value} {Q : Value → Shared → Prop} (ht : IsTup s.heap t vs.toArray) (hb : IsTup s.heap b ws.toArray) (hv : vs ≠ [])
    (h1 : ws = [] → Q (.ref t) s) (h2 : ws ≠ [] → Q (.ref s.heap.objs.size) { s with heap := s.heap.push { cls := .type "tuple", data := .seq (vs ++ ws).toArray } })
    (hsz : vs.length + ws.length ≤ sizeLine) : wpAny (model prog w) A (binaryOp .Add (.ref t) (.ref b)) Q E s := by
  obtain ⟨⟨cls, dd, data, sl⟩, ho, hc, n, hd⟩ := id ht
  obtain ⟨⟨cls2, dd2, data2, sl2⟩, ho2, hc2, n2, hd2⟩ := id hb
  simp only at hc hd hc2 hd2
  subst hc hd hc2 hd2
  have e : vs.toArray ++ ws.toArray = (vs ++ ws).toArray := by simp
  by_cases hw : ws = []
  · exact concat_meets ⟨_, ho, rfl⟩ ⟨_, ho2, rfl⟩ noFill_tuple_add seq_tuple_add PySem.F.slot_tuple_add PySem.F.entry_tuple_add (PySem.F.args_tuple_add_2 _ _)
      (tuple_addW1 t b vs.toArray ws.toArray n n2 dd dd2 sl sl2 (by simpa using hv) (by simp [hw])) ⟨ho, ho2, h1 hw⟩
  · refine concat_meets ⟨_, ho, rfl⟩ ⟨_, ho2, rfl⟩ noFill_tuple_add seq_tuple_add PySem.F.slot_tuple_add PySem.F.entry_tuple_add (PySem.F.args_tuple_add_2 _ _)
      (tuple_addW2 t b vs.toArray ws.toArray n n2 dd dd2 sl sl2 (by simpa using hv) (by simpa using hw) (by rw [List.size_toArray, List.size_toArray]; exact hsz)) ⟨ho, ho2, ?_⟩
    rw [e]
    exact h2 hw

noncomputable def sIx (n d : Nat) : Option Int → Nat
  | none => d
  | some v => if v < 0 then (v + (n : Int)).toNat else min v.toNat n
theorem sIx_le (n d : Nat) (hd : d ≤ n) (o : Option Int) : sIx n d o ≤ n := by
  cases o with
  | none => exact hd
  | some v =>
    show (if v < 0 then (v + (n : Int)).toNat else min v.toNat n) ≤ n
    by_cases hv : v < 0
    · rw [if_pos hv]; omega
    · rw [if_neg hv]; exact Nat.min_le_right _ _
theorem clip_eq (v : Int) (n d : Nat) : (if v < 0 then max (v + (n : Int)) 0 else min v (n : Int)) = ((sIx n d (some v) : Nat) : Int) := by
  show (if v < 0 then max (v + (n : Int)) 0 else min v (n : Int)) = (((if v < 0 then (v + (n : Int)).toNat else min v.toNat n) : Nat) : Int)
  by_cases hv : v < 0
  · simp only [if_pos hv]; omega
  · simp only [if_neg hv]; omega
theorem adjust_gen (lo hi : Option Int) (n : Nat) : Builtin.Slice.sliceAdjust lo hi 1 (n : Int) = (((sIx n 0 lo : Nat) : Int), ((sIx n n hi : Nat) : Int)) := by
  have h1 : ¬ ((1 : Int) < 0) := by omega
  unfold Builtin.Slice.sliceAdjust
  simp only [h1, if_false]
  refine Prod.ext ?_ ?_
  · cases lo with
    | none => rfl
    | some v => exact clip_eq v n 0
  · cases hi with
    | none => rfl
    | some v => exact clip_eq v n n
theorem places_gen (i j : Nat) : Builtin.Slice.slicePlaces (i : Int) (j : Int) 1 = j - i := by
  unfold Builtin.Slice.slicePlaces
  have h1 : (1 : Int) > 0 := by omega
  simp only [h1, if_true, Int.ediv_one]
  split <;> omega
theorem slicePart_ {v : Value} {o : Option Int} {Q : Option Int → Shared → Prop} (p : IsPart v o) (h : Q o s) : wpAny (model prog w) A (Builtin.Slice.slicePartIndex v) Q E s := by
  cases p with
  | none => exact slicePart_none h
  | int i t => exact slicePart_int h
theorem sliceApplied_gen {sl : Addr} {vl vu : Value} {lo hi : Option Int} {n : Nat} {Q : Int × Int × Nat → Shared → Prop} (hs : s.heap.IsSliceOf sl vl vu .none) (pl : IsPart vl lo) (pu : IsPart vu hi)
    (h : Q (((sIx n 0 lo : Nat) : Int), 1, sIx n n hi - sIx n 0 lo) s) : wpAny (model prog w) A (Builtin.Slice.sliceApplied (.ref sl) (pure (n : Int))) Q E s := by
  obtain ⟨os, hos, hcs, hds⟩ := id hs
  unfold Builtin.Slice.sliceApplied Builtin.Slice.sliceFields
  refine wpAny_bind (wpAny_bind (wpAny_field hos hds (x := vl) rfl (wpAny_bind (wpAny_field hos hds (x := vu) rfl (wpAny_bind (wpAny_field hos hds (x := .none) rfl (wpAny_pure ?_)))))))
  refine wpAny_bind (slicePart_none ?_)
  show wpAny _ _ (if ((1 : Int) == 0) = true then _ else _) _ _ s
  rw [if_neg (by decide)]
  refine wpAny_bind (slicePart_ pl (wpAny_bind (slicePart_ pu (wpAny_bind (wpAny_pure ?_)))))
  show wpAny _ _ (match Builtin.Slice.sliceAdjust lo hi 1 (n : Int) with | (lo, hi) => pure (lo, (1 : Int), Builtin.Slice.slicePlaces lo hi 1)) _ _ s
  rw [adjust_gen lo hi n]
  show wpAny _ _ (pure (((sIx n 0 lo : Nat) : Int), (1 : Int), Builtin.Slice.slicePlaces ((sIx n 0 lo : Nat) : Int) ((sIx n n hi : Nat) : Int) 1)) _ _ s
  rw [places_gen]
  exact wpAny_pure h
theorem pick_gen (xs : Array Value) (i k : Nat) : ((List.range k).filterMap fun (m : Nat) => xs[((i : Int) + (m : Int) * 1).toNat]?).toArray = ((xs.toList.drop i).take k).toArray := by
  have e : (fun (m : Nat) => xs[((i : Int) + (m : Int) * 1).toNat]?) = fun m => xs[i + m]? := by
    funext m
    have : ((i : Int) + (m : Int) * 1).toNat = i + m := by omega
    rw [this]
  rw [e]
  have := pick_run xs i k
  rw [List.filterMap_map] at this
  have e2 : ((fun x => xs[x]?) ∘ fun x => i + x) = fun m => xs[i + m]? := rfl
  rw [e2] at this
  rw [this]

theorem getItem_tuple_cut {t sl : Addr} {items : Array Value} {vl vu : Value} {lo hi : Option Int} {Q : Value → Shared → Prop} (ht : IsTup s.heap t items) (hs : s.heap.IsSliceOf sl vl vu .none) (pl : IsPart vl lo) (pu : IsPart vu hi)
    (hw : ¬ (sIx items.size 0 lo = 0 ∧ sIx items.size items.size hi = items.size))
    (h : Q (.ref s.heap.objs.size) { s with heap := s.heap.push { cls := .type "tuple", data := .seq ((items.toList.drop (sIx items.size 0 lo)).take (sIx items.size items.size hi - sIx items.size 0 lo)).toArray } })
    (hsz : items.size ≤ sizeLine) : wpAny (model prog w) A (getItem (.ref t) (.ref sl)) Q E s := by
  have htake : sizeOk (.seq ((items.toList.drop (sIx items.size 0 lo)).take (sIx items.size items.size hi - sIx items.size 0 lo)).toArray) := by
    show ((items.toList.drop (sIx items.size 0 lo)).take (sIx items.size items.size hi - sIx items.size 0 lo)).toArray.size ≤ sizeLine
    rw [List.size_toArray, List.length_take, List.length_drop, Array.length_toList]
    omega
  have hj : sIx items.size items.size hi ≤ items.size := sIx_le _ _ (Nat.le_refl _) hi
  obtain ⟨os, hos, hcs, hds⟩ := id hs
  have hTs : s.TypeIs (.ref sl) "slice" := ⟨os, hos, hcs⟩
  unfold getItem
  try with_reducible refine wpAny_holding ?_
  first | refine wpAny_bind (wpAny_pure ?_) | skip
  refine wpAny_bind (wpAny_sequenceKey ht.typeIs (by decide) ?_)
  refine wpAny_bind (wpAny_callSpecial?_slot (name := Str.ofString "__getitem__") ht.typeIs PyProof.Rows.slot_tuple_getitem
    (wpAny_call_entry PyProof.Rows.slot_tuple_getitem ht.typeIs entry_tuple_getitem ?_ (args_tuple_getitem _ _)))
  show wpAny _ _ (Builtin.Tuple.tupleItemsOf (.ref t) >>= _) _ _ s
  refine wpAny_bind (tupleItemsOf_ ht ?_)
  refine wpAny_bind (wpAny_typeOf hTs ?_)
  rw [if_pos (by decide)]
  refine wpAny_bind (sliceApplied_gen hs pl pu ?_)
  have hno : ¬ ((((sIx items.size 0 lo : Nat) : Int) == 0 && (1 : Int) == 1 && (sIx items.size items.size hi - sIx items.size 0 lo) == items.size) = true) := by
    intro q
    rw [Bool.and_eq_true, Bool.and_eq_true] at q
    have q1 : ((sIx items.size 0 lo : Nat) : Int) = 0 := eq_of_beq q.1.1
    have q2 : sIx items.size items.size hi - sIx items.size 0 lo = items.size := eq_of_beq q.2
    exact hw ⟨by omega, by omega⟩
  show wpAny _ _ (if (((sIx items.size 0 lo : Nat) : Int) == 0 && (1 : Int) == 1 && (sIx items.size items.size hi - sIx items.size 0 lo) == items.size) = true then _ else _) _ _ s
  rw [if_neg hno, pick_gen]
  first
    | exact wpAny_bind (m := Builtin.Tuple.tupleExact _) (wpAny_newObj_type (wpAny_pure ⟨_, rfl, wpAny_pure h⟩) htake)
    | exact wpAny_bind (m := Builtin.Tuple.tupleExact _) (wpAny_newObj_type (wpAny_bind (wpAny_pure (wpAny_pure ⟨_, rfl, wpAny_pure h⟩))) htake)
    | exact wpAny_bind (wpAny_bind (m := Builtin.Tuple.tupleExact _) (wpAny_newObj_type (wpAny_pure (wpAny_pure ⟨_, rfl, wpAny_pure h⟩)) htake))
    | exact wpAny_bind (wpAny_bind (m := Builtin.Tuple.tupleExact _) (wpAny_newObj_type (wpAny_pure ⟨_, rfl, wpAny_pure h⟩) htake))
end
end HT

namespace L2
open PySem PySem.Spec PyProof.Rows

noncomputable abbrev TO := St → Hp → (Option Int → Hp → Prop) → Prop
noncomputable def PO (X : Cx) (e : Option Expr) (t : TO) : Prop :=
  ∀ (pins : List (Addr × Obj)) (s : Shared) (σ : St) (H : Hp) (Q : Option Int → Hp → Prop), Inv X pins σ H s → t σ H Q →
    wpAny (model X.prog X.w) X.A (evalPart e X.env) (fun u s' => ∃ o H', Inv X pins σ H' s' ∧ IsPart u o ∧ Q o H') X.xe s
noncomputable def tNoPart : TO := fun _ H Q => Q none H
noncomputable def tPart (t : TE) : TO := fun σ H Q => t σ H fun x H1 => ∃ i, x = .int i ∧ Q (some i) H1

section
variable {X : Cx} {e : Expr} {te : TE} {lo hi : Option Expr} {tl th : TO} {pos p2 : Pos}

theorem po_none : PO X none tNoPart := by
  intro pins s σ H Q I h
  rw [evalPart_none]
  exact wpAny_pure ⟨none, H, I, .none, h⟩
theorem po_some (h : PE X e te) : PO X (some e) (tPart te) := by
  intro pins s σ H Q I hw
  rw [evalPart_some]
  refine thn (h pins s σ H _ I hw) fun u s1 ⟨x, H1, I1, r1, q1⟩ => ?_
  obtain ⟨i, rfl, q⟩ := q1
  obtain ⟨t, rfl⟩ := r1
  exact ⟨some i, H1, I1, .int i t, q⟩

noncomputable def SlR (X : Cx) (r : V → Option Int → Option Int → Hp → VK → Prop) : Prop :=
  ∀ (pins : List (Addr × Obj)) (s : Shared) (σ : St) (H : Hp) (x : V) (v vl vu : Value) (lo hi : Option Int) (sl : Addr) (Q : VK), Inv X pins σ H s → RelV x v → s.heap.IsSliceOf sl vl vu .none → IsPart vl lo → IsPart vu hi → r x lo hi H Q →
    ∃ T id, typeLookup (.type T) "__getitem__" = pure (some (.builtin id)) ∧ s.TypeIs v T ∧ wpAny (model X.prog X.w) X.A (getItem v (.ref sl)) (EP X pins σ Q) X.xe s
theorem SlR.or {r r' : V → Option Int → Option Int → Hp → VK → Prop} (h : SlR X r) (h' : SlR X r') : SlR X (fun x lo hi H Q => r x lo hi H Q ∨ r' x lo hi H Q) := by
  intro pins s σ H x v vl vu lo hi sl Q I rx hs pl pu q
  rcases q with q | q
  · exact h pins s σ H x v vl vu lo hi sl Q I rx hs pl pu q
  · exact h' pins s σ H x v vl vu lo hi sl Q I rx hs pl pu q
noncomputable def tSl (r : V → Option Int → Option Int → Hp → VK → Prop) (te : TE) (tl th : TO) : TE := fun σ H Q => te σ H fun x H1 => tl σ H1 fun l H2 => th σ H2 fun u H3 => r x l u H3 Q
theorem pe_slice {r : V → Option Int → Option Int → Hp → VK → Prop} (hr : SlR X r) (he : PE X e te) (hl : PO X lo tl) (hu : PO X hi th) : PE X (.Subscript e (.Slice lo hi none p2) pos) (tSl r te tl th) := by
  intro pins s σ H Q I h
  refine Subscript_ (thn (he pins s σ H _ I h) fun v s1 ⟨x, H1, I1, r1, q1⟩ => ?_)
  refine wpAny_Slice (thn (hl pins s1 σ H1 _ I1 q1) fun vl s2 ⟨l, H2, I2, pl, q2⟩ => thn (hu pins s2 σ H2 _ I2 q2) fun vu s3 ⟨u, H3, I3, pu, q3⟩ => ?_)
  rw [evalPart_none]
  refine wpAny_pure ?_
  have I4 : Inv X pins σ H3 { s3 with heap := s3.heap.push { cls := .type "slice", data := .fields #[vl, vu, .none] } } := I3.kept (t' := s3.toks) fun b ob q => Heap.get?_push_of_some _ q
  obtain ⟨T, id, hT, ht, hg⟩ := hr pins { s3 with heap := s3.heap.push { cls := .type "slice", data := .fields #[vl, vu, .none] } } σ H3 x v vl vu l u s3.heap.objs.size Q I4 r1 (Heap.IsSliceOf.new ..) pl pu q3
  show wpAny (model X.prog X.w) X.A (subscriptTail e (.Slice lo hi none p2) v (.ref s3.heap.objs.size)) (EP X pins σ Q) X.xe { s3 with heap := s3.heap.push { cls := .type "slice", data := .fields #[vl, vu, .none] } }
  exact tail_any (ops := [.ref s3.heap.objs.size, v]) ht hT hg (by with_unfolding_all rfl)

noncomputable def cutV (xs : List V) (lo hi : Option Int) : List V := (xs.drop (HT.sIx xs.length 0 lo)).take (HT.sIx xs.length xs.length hi - HT.sIx xs.length 0 lo)
theorem cutV_length (xs : List V) (lo hi : Option Int) : (cutV xs lo hi).length ≤ xs.length := by
  unfold cutV
  rw [List.length_take, List.length_drop]
  omega
noncomputable def rSlT (K : PySem.W.Frag) : V → Option Int → Option Int → Hp → VK → Prop := fun x lo hi H Q => ∃ a xs, x = .ref a ∧ SqT K H a xs ∧
  ¬ (HT.sIx xs.length 0 lo = 0 ∧ HT.sIx xs.length xs.length hi = xs.length) ∧ ∀ p, H p = none → Q (.ref p) (upd H p (.tup (cutV xs lo hi)))
theorem sl_tup : SlR X (rSlT X.K) := by
  intro pins s σ H x v vl vu lo hi sl Q I rx hs pl pu h
  obtain ⟨a, xs, rfl, hx, hw, q⟩ := h
  cases rx
  obtain ⟨its, r, ht, hz⟩ := I.tuple hx
  have hlen : its.toArray.size = xs.length := by rw [List.size_toArray]; exact r.length.symm
  refine ⟨"tuple", _, PyProof.Rows.slot_tuple_getitem.lookup, ht.typeIs, ?_⟩
  refine HT.getItem_tuple_cut ht hs pl pu (by rw [hlen]; exact hw) ?_ (by rw [hlen]; exact hz)
  rw [hlen]
  refine ⟨.ref s.heap.objs.size, _, I.laid (t' := s.toks) (o := .tup (cutV xs lo hi)) (fun b ob q => Heap.get?_push_of_some _ q) (Nat.le_refl _) ?_, rfl, q _ (I.hok.fresh (Nat.le_refl _))⟩
  exact ⟨Nat.le_trans (cutV_length xs lo hi) hz, _, (r.drop (HT.sIx xs.length 0 lo)).take (HT.sIx xs.length xs.length hi - HT.sIx xs.length 0 lo), IsTup.new _ _⟩

noncomputable def rCatT (K : PySem.W.Frag) : R2 := fun x y H Q => ∃ a b xs ys, x = .ref a ∧ y = .ref b ∧ SqT K H a xs ∧ SqT K H b ys ∧ xs ≠ [] ∧ xs.length + ys.length ≤ sizeLine ∧
  (ys = [] → Q (.ref a) H) ∧ (ys ≠ [] → ∀ p, H p = none → Q (.ref p) (upd H p (.tup (xs ++ ys))))
theorem Vals.nil_iff {xs : List V} {us : List Value} (r : Vals xs us) : us = [] ↔ xs = [] := by
  cases r with
  | nil => simp
  | cons _ _ => simp
theorem op_catT : OpR X (binaryOp .Add) (rCatT X.K) := by
  intro pins s σ H x y v u Q I rx ry h
  obtain ⟨a, b, xs, ys, rfl, rfl, ha, hb, hx, hz, q1, q2⟩ := h
  cases rx
  cases ry
  obtain ⟨its, r1, p1, _⟩ := I.tuple ha
  obtain ⟨its2, r2, p2, _⟩ := I.tuple hb
  refine HT.cat_tup p1 p2 (fun z => hx (r1.nil_iff.mp z)) (fun z => ⟨.ref a, H, I, rfl, q1 (r2.nil_iff.mp z)⟩) (fun z => ?_) (by rw [← r1.length, ← r2.length]; exact hz)
  refine ⟨.ref s.heap.objs.size, _, I.laid (t' := s.toks) (o := .tup (xs ++ ys)) (fun b ob q => Heap.get?_push_of_some _ q) (Nat.le_refl _) ?_, rfl, q2 (fun w => z (r2.nil_iff.mpr w)) _ (I.hok.fresh (Nat.le_refl _))⟩
  exact ⟨by rw [List.length_append]; exact hz, _, r1.append r2, IsTup.new _ _⟩
end
end L2

namespace L2
open PySem PySem.Spec PyProof.Rows

noncomputable def ixN (n : Nat) (i : Int) : Option Nat := if 0 ≤ i then (if i < n then some i.toNat else none) else if -(n : Int) ≤ i then some (i + n).toNat else none
noncomputable def atI {α : Type} (xs : List α) (i : Int) : Option α := (ixN xs.length i).bind fun j => xs[j]?
theorem ixN_seq {n : Nat} {i : Int} {j : Nat} (h : ixN n i = some j) : seqIndex? i n = some j ∧ j < n ∧ -(n : Int) ≤ i ∧ i < n := by
  unfold ixN at h
  by_cases h0 : 0 ≤ i
  · rw [if_pos h0] at h
    by_cases h1 : i < n
    · rw [if_pos h1] at h
      have e : i.toNat = j := Option.some.inj h
      exact ⟨by rw [seqIndex_of h0 h1, e], by omega, by omega, h1⟩
    · rw [if_neg h1] at h; cases h
  · rw [if_neg h0] at h
    by_cases h1 : -(n : Int) ≤ i
    · rw [if_pos h1] at h
      have e : (i + n).toNat = j := Option.some.inj h
      exact ⟨by rw [seqIndex_neg (by omega) h1, e], by omega, h1, by omega⟩
    · rw [if_neg h1] at h; cases h
theorem atI_get {α : Type} {xs : List α} {i : Int} {v : α} (h : atI xs i = some v) : ∃ j, seqIndex? i xs.length = some j ∧ xs[j]? = some v ∧ j < xs.length ∧ -(xs.length : Int) ≤ i ∧ i < xs.length := by
  unfold atI at h
  cases e : ixN xs.length i with
  | none => rw [e] at h; cases h
  | some j =>
    rw [e] at h
    obtain ⟨h1, h2, h3, h4⟩ := ixN_seq e
    exact ⟨j, h1, h, h2, h3, h4⟩
theorem atI_nat {α : Type} {xs : List α} {j : Nat} {v : α} (h : xs[j]? = some v) : atI xs (j : Int) = some v := by
  have hj : j < xs.length := (List.getElem?_eq_some_iff.mp h).1
  have e : ixN xs.length (j : Int) = some j := by
    unfold ixN
    rw [if_pos (by omega), if_pos (by omega)]; simp
  unfold atI; rw [e]; exact h
noncomputable def PlainIx (b : Expr) : Prop := ∀ o i, subscripted b false o i = operate [o, i] (getItem o i)
noncomputable def IxR (X : Cx) (r : R2) : Prop :=
  ∀ (value slice : Expr) (pins : List (Addr × Obj)) (s : Shared) (σ : St) (H : Hp) (x y : V) (v u : Value) (Q : VK), Inv X pins σ H s → RelV x v → RelV y u → r x y H Q →
    subscripted slice false v u = operate [v, u] (getItem v u) → wpAny (model X.prog X.w) X.A (subscriptTail value slice v u) (EP X pins σ Q) X.xe s
noncomputable def MtR (X : Cx) (id : String) (r : V → List V → Hp → VK → Prop) : Prop :=
  ∀ (pins : List (Addr × Obj)) (s : Shared) (σ : St) (H : Hp) (x : V) (xs : List V) (v : Value) (us : List Value) (Q : VK), Inv X pins σ H s → RelV x v → Vals xs us → r x xs H Q →
    wpAny (model X.prog X.w) X.A (call (.builtin id) (v :: us)) (EP X pins σ Q) X.xe s
section
variable {X : Cx} {a b : Expr} {ta tb : TE} {pos : Pos}
theorem IxR.or {r r' : R2} (h : IxR X r) (h' : IxR X r') : IxR X (fun x y H Q => r x y H Q ∨ r' x y H Q) := by
  intro value slice pins s σ H x y v u Q I rx ry q hs
  rcases q with q | q
  · exact h value slice pins s σ H x y v u Q I rx ry q hs
  · exact h' value slice pins s σ H x y v u Q I rx ry q hs
theorem MtR.or {id : String} {r r' : V → List V → Hp → VK → Prop} (h : MtR X id r) (h' : MtR X id r') : MtR X id (fun x xs H Q => r x xs H Q ∨ r' x xs H Q) := by
  intro pins s σ H x xs v us Q I rx rs q
  rcases q with q | q
  · exact h pins s σ H x xs v us Q I rx rs q
  · exact h' pins s σ H x xs v us Q I rx rs q
theorem pe_ix {r : R2} (hr : IxR X r) (ha : PE X a ta) (hb : PE X b tb) (hs : PlainIx b) : PE X (.Subscript a b pos) (tOp r ta tb) := by
  intro pins s σ H Q I h
  exact Subscript_ (binT ha hb I h fun v u s2 x y H2 I2 rx ry q => hr a b pins s2 σ H2 x y v u Q I2 rx ry q (hs _ _))

noncomputable def rIxL (K : PySem.W.Frag) : R2 := fun x y H Q => ∃ p xs i v, x = .ref p ∧ y = .int i ∧ SqL K H p xs ∧ atI xs i = some v ∧ Q v H
noncomputable def rIxT (K : PySem.W.Frag) : R2 := fun x y H Q => ∃ p xs i v, x = .ref p ∧ y = .int i ∧ SqT K H p xs ∧ atI xs i = some v ∧ Q v H
noncomputable def rIxS : R2 := fun x y H Q => ∃ z i c, x = .str z ∧ y = .int i ∧ z.length ≤ sizeLine ∧ atI z.cps.toList i = some c ∧ Q (.str ⟨#[c]⟩) H
theorem ix_list : IxR X (rIxL X.K) := by
  intro value slice pins s σ H x y v u Q I rx ry h hs
  obtain ⟨p, xs, i, z, rfl, rfl, hq, he, q⟩ := h
  cases rx
  obtain ⟨t, rfl⟩ := ry
  obtain ⟨its, r, pl, hz⟩ := I.list hq
  obtain ⟨j, h1, h2, h3, h4, h5⟩ := atI_get he
  obtain ⟨w, ew, rw'⟩ := r.get h2
  have hl := r.length
  have hn := line63
  have fin : EP X pins σ Q w s := ⟨z, H, I, rw', q⟩
  by_cases h0 : 0 ≤ i
  · have hj : i.toNat = j := by
      rw [seqIndex_of h0 h5] at h1
      exact Option.some.inj h1
    exact item_listR pl.isList h0 (by omega) (by rw [hj]; simpa using ew) fin hs
  · have hj : (i + (its.toArray.size : Int)).toNat = j := by
      rw [seqIndex_neg (by omega) h4] at h1
      rw [List.size_toArray, ← hl]
      exact Option.some.inj h1
    exact subscriptTail_builtinR (x := w) pl.isList.typeIs slot_list_getitem.lookup
      (wpAny_getItem_list_neg (Q := fun r s' => r = w ∧ EP X pins σ Q r s') pl.isList (by omega) (by rw [List.size_toArray] <;> omega) (by omega) (by rw [hj]; simpa using ew) ⟨rfl, fin⟩) hs
theorem ix_tup : IxR X (rIxT X.K) := by
  intro value slice pins s σ H x y v u Q I rx ry h hs
  obtain ⟨p, xs, i, z, rfl, rfl, hq, he, q⟩ := h
  cases rx
  obtain ⟨t, rfl⟩ := ry
  obtain ⟨its, r, pl, hz⟩ := I.tuple hq
  obtain ⟨j, h1, h2, h3, h4, h5⟩ := atI_get he
  obtain ⟨w, ew, rw'⟩ := r.get h2
  have hl := r.length
  have hn := line63
  have fin : EP X pins σ Q w s := ⟨z, H, I, rw', q⟩
  exact subscriptTail_builtinR (x := w) pl.typeIs slot_tuple_getitem.lookup
    (getItem_tuple (j := j) (Q := fun r s' => r = w ∧ EP X pins σ Q r s') pl (by omega) (by omega) (by rw [List.size_toArray, ← hl]; exact h1) (by simpa using ew) ⟨rfl, fin⟩) hs
theorem ix_str : IxR X rIxS := by
  intro value slice pins s σ H x y v u Q I rx ry h hs
  obtain ⟨z, i, c, rfl, rfl, hz, he, q⟩ := h
  obtain ⟨t, rfl⟩ := rx
  obtain ⟨t', rfl⟩ := ry
  obtain ⟨j, h1, h2, h3, h4, h5⟩ := atI_get he
  have hl : z.cps.toList.length = z.length := by simp [Str.length]
  rw [hl] at h1 h4 h5
  have hn := line63
  exact tail_any (typeIs_str s z t) slot_str_getitem.lookup (getItem_str (c := c) (by
    have e1 : decide (i < -(2 ^ 63 : Int)) = false := decide_eq_false (by omega)
    have e2 : decide (i ≥ 2 ^ 63) = false := decide_eq_false (by omega)
    rw [e1, e2, Bool.or_false]) (by rw [h1]; simpa using h2) ⟨.str ⟨#[c]⟩, H, I.tok _, ⟨_, rfl⟩, q⟩) hs
theorem mapSeq_set (its : List Value) (n j : Nat) (u : Value) : Obj.mapSeq (·.setIfInBounds j u) { cls := .type "list", data := .seq its.toArray n } = { cls := .type "list", data := .seq (its.set j u).toArray n } := by
  simp [Obj.mapSeq]
theorem Inv.lst {pins : List (Addr × Obj)} {σ : St} {H : Hp} {s : Shared} {p : Addr} {xs : List V} (I : Inv X pins σ H s) (h : H p = some (.lst xs)) :
    ∃ (its : List Value) (n : Nat), Vals xs its ∧ s.heap.get? p = some { cls := .type "list", data := .seq its.toArray n } ∧ xs.length ≤ sizeLine := by
  obtain ⟨z, its, n, r, e⟩ := I.hok p _ h
  exact ⟨its, n, r, e, z⟩
theorem Inv.lstUpd {pins : List (Addr × Obj)} {σ : St} {H : Hp} {s : Shared} {p : Addr} {xs ys : List V} {its its' : List Value} {n n' : Nat} {f : Obj → Obj} (I : Inv X pins σ H s) (h : H p = some (.lst xs))
    (ho : s.heap.get? p = some { cls := .type "list", data := .seq its.toArray n }) (hf : f { cls := .type "list", data := .seq its.toArray n } = { cls := .type "list", data := .seq its'.toArray n' }) (r : Vals ys its') (hz : ys.length ≤ sizeLine) (t : Nat) :
    Inv X pins σ (upd H p (.lst ys)) { s with heap := s.heap.update p f, toks := t } := by
  have e : (s.heap.update p f).get? p = some { cls := .type "list", data := .seq its'.toArray n' } := by
    rw [Heap.get?_update_self f ho (by rw [hf] <;> rfl), hf]
  refine I.write (x := p) (e := p) (by rw [h]; trivial) (.inl rfl) (fun b u hb q => (Heap.get?_update_other _ _ (Ne.symm hb)).trans q) ⟨_, e⟩ ?_
  exact ⟨hz, its', n', r, e⟩
noncomputable def rSetL : V → V → V → Hp → (Hp → Prop) → Prop := fun o i v H Q => ∃ p xs k j, o = .ref p ∧ i = .int k ∧ H p = some (.lst xs) ∧ ixN xs.length k = some j ∧ Q (upd H p (.lst (xs.set j v)))
theorem set_list : PSet X rSetL := by
  intro pins s σ H o i v ov iv u Q I ro ri rv h
  obtain ⟨p, xs, k, j, rfl, rfl, hp, hj, q⟩ := h
  cases ro
  obtain ⟨t, rfl⟩ := ri
  obtain ⟨its, n, r, ho, hz⟩ := I.lst hp
  obtain ⟨h1, h2, h3, h4⟩ := ixN_seq hj
  have hl := r.length
  have hn := line63
  have I' : Inv X pins σ (upd H p (.lst (xs.set j v))) { s with heap := s.heap.update p (Obj.mapSeq (·.setIfInBounds j u)) } :=
    I.lstUpd hp ho (mapSeq_set its n j u) (r.set rv j) (by rw [List.length_set]; exact hz) s.toks
  by_cases h0 : 0 ≤ k
  · have hk : k.toNat = j := by
      rw [seqIndex_of h0 h4] at h1
      exact Option.some.inj h1
    exact PySem.W.ki_setAt ho h0 (by omega) (by rw [List.size_toArray, ← hl]; exact h4) (by rw [hk]; exact ⟨_, I', q⟩)
  · have hk : (k + (its.toArray.size : Int)).toNat = j := by
      rw [seqIndex_neg (by omega) h3] at h1
      rw [List.size_toArray, ← hl]
      exact Option.some.inj h1
    exact PySem.W.ki_setBack ho (by omega) (by rw [List.size_toArray, ← hl]; exact h3) (by omega) (by rw [hk]; exact ⟨_, I', q⟩)

theorem slice_bounds (lo hi : Option Int) (n : Nat) : (sliceBounds lo hi none n).1 = ((HT.sIx n 0 lo : Nat) : Int) ∧ (sliceBounds lo hi none n).2.1 = ((HT.sIx n n hi : Nat) : Int) ∧ (sliceBounds lo hi none n).2.2 = 1 := by
  refine ⟨?_, ?_, rfl⟩
  · cases lo with
    | none => simp [sliceBounds, HT.sIx]
    | some i =>
      simp only [sliceBounds, HT.sIx, Option.getD_none, show (1 : Int) > 0 by decide, if_true]
      by_cases h : i < 0
      · simp only [h, if_true] <;> omega
      · simp only [h, if_false] <;> omega
  · cases hi with
    | none => simp [sliceBounds, HT.sIx]
    | some i =>
      simp only [sliceBounds, HT.sIx, Option.getD_none, show (1 : Int) > 0 by decide, if_true]
      by_cases h : i < 0
      · simp only [h, if_true] <;> omega
      · simp only [h, if_false] <;> omega
theorem slicePick_cut (its : List Value) (lo hi : Option Int) : slicePick its.toArray lo hi none = ((its.drop (HT.sIx its.length 0 lo)).take (HT.sIx its.length its.length hi - HT.sIx its.length 0 lo)).toArray := by
  obtain ⟨h1, h2, h3⟩ := slice_bounds lo hi its.toArray.size
  unfold slicePick
  rw [h1, h2, h3]
  simp only [sliceRange_one, pick_run, List.size_toArray] <;> rfl
noncomputable def rSlL (K : PySem.W.Frag) : V → Option Int → Option Int → Hp → VK → Prop := fun x lo hi H Q => ∃ a xs, x = .ref a ∧ SqL K H a xs ∧ ∀ p, H p = none → Q (.ref p) (upd H p (.lst (cutV xs lo hi)))
theorem sl_list : SlR X (rSlL X.K) := by
  intro pins s σ H x v vl vu lo hi sl Q I rx hs pl pu h
  obtain ⟨a, xs, rfl, hx, q⟩ := h
  cases rx
  obtain ⟨its, r, ht, hz⟩ := I.list hx
  have hlen := r.length
  refine ⟨"list", _, slot_list_getitem.lookup, ht.isList.typeIs, ?_⟩
  refine wpAny_getItem_list_slice ht.isList hs pl pu .none (by simp) ?_ (by rw [List.size_toArray] <;> omega)
  rw [slicePick_cut, ← hlen]
  refine ⟨.ref s.heap.objs.size, _, I.laid (t' := s.toks) (o := .lst (cutV xs lo hi)) (fun b ob q => Heap.get?_push_of_some _ q) (Nat.le_refl _) ?_, rfl, q _ (I.hok.fresh (Nat.le_refl _))⟩
  exact ⟨Nat.le_trans (cutV_length xs lo hi) hz, _, 0, (r.drop (HT.sIx xs.length 0 lo)).take (HT.sIx xs.length xs.length hi - HT.sIx xs.length 0 lo), Heap.get?_push_size _ rfl⟩

noncomputable def flatV : V → Bool
  | .non => true
  | .bl _ => true
  | .int _ => true
  | .str _ => true
  | _ => false
noncomputable def eqV : V → V → Bool
  | .non, .non => true
  | .bl a, .bl b => a == b
  | .bl a, .int b => (if a then 1 else 0) == b
  | .int a, .bl b => a == (if b then 1 else 0)
  | .int a, .int b => a == b
  | .str a, .str b => a == b
  | _, _ => false
theorem eqAt_V {A : Around} {s : Shared} {y x : V} {u v : Value} (ry : RelV y u) (rx : RelV x v) (fy : flatV y = true) (fx : flatV x = true) : SeqAt.EqAt A s u v (eqV y x) := by
  cases y with
  | non =>
    cases ry
    cases x with
    | non => cases rx; exact SeqAt.EqAt.same _
    | bl b => cases rx; exact SeqAt.EqAt.none_bool b
    | int b => obtain ⟨t, rfl⟩ := rx; exact SeqAt.EqAt.none_int b t
    | str b => obtain ⟨t, rfl⟩ := rx; exact SeqAt.EqAt.none_str b t
    | _ => exact absurd (show false = true from fx) Bool.false_ne_true
  | bl a =>
    cases ry
    cases x with
    | non => cases rx; exact SeqAt.EqAt.bool_none a
    | bl b => cases rx; exact SeqAt.EqAt.bool_bool a b
    | int b => obtain ⟨t, rfl⟩ := rx; exact SeqAt.EqAt.bool_int a b t
    | str b => obtain ⟨t, rfl⟩ := rx; exact SeqAt.EqAt.bool_str a b t
    | _ => exact absurd (show false = true from fx) Bool.false_ne_true
  | int a =>
    obtain ⟨t', rfl⟩ := ry
    cases x with
    | non => cases rx; exact SeqAt.EqAt.int_none a t'
    | bl b => cases rx; exact SeqAt.EqAt.int_bool a t' b
    | int b => obtain ⟨t, rfl⟩ := rx; exact SeqAt.EqAt.int_int a t' b t
    | str b => obtain ⟨t, rfl⟩ := rx; exact SeqAt.EqAt.int_str a t' b t
    | _ => exact absurd (show false = true from fx) Bool.false_ne_true
  | str a =>
    obtain ⟨t', rfl⟩ := ry
    cases x with
    | non => cases rx; exact SeqAt.EqAt.str_none a t'
    | bl b => cases rx; exact SeqAt.EqAt.str_bool a t' b
    | int b => obtain ⟨t, rfl⟩ := rx; exact SeqAt.EqAt.str_int a t' b t
    | str b => obtain ⟨t, rfl⟩ := rx; exact SeqAt.EqAt.str_str a t' b t
    | _ => exact absurd (show false = true from fx) Bool.false_ne_true
  | _ => exact absurd (show false = true from fy) Bool.false_ne_true
noncomputable def eqU (x : V) (u : Value) : Bool := match u with
  | .none => eqV .non x
  | .bool b => eqV (.bl b) x
  | .int i _ => eqV (.int i) x
  | .str z _ => eqV (.str z) x
  | _ => false
theorem eqU_of {x y : V} {u : Value} (r : RelV y u) (f : flatV y = true) : eqU x u = eqV y x := by
  cases y with
  | non => cases r; rfl
  | bl b => cases r; rfl
  | int i => obtain ⟨t, rfl⟩ := r; rfl
  | str z => obtain ⟨t, rfl⟩ := r; rfl
  | _ => exact absurd (show false = true from f) Bool.false_ne_true
theorem any_eqU {x : V} : ∀ {xs : List V} {us : List Value}, Vals xs us → xs.all flatV = true → us.any (eqU x) = xs.any fun y => eqV y x
  | _, _, .nil, _ => rfl
  | y :: xs, u :: us, .cons r t, f => by
    rw [List.all_cons, Bool.and_eq_true] at f
    rw [List.any_cons, List.any_cons, eqU_of r f.1, any_eqU t f.2]
theorem mem_eqAt {A : Around} {s : Shared} {x : V} {v : Value} (rx : RelV x v) (fx : flatV x = true) : ∀ {xs : List V} {us : List Value}, Vals xs us → xs.all flatV = true → ∀ u ∈ us, SeqAt.EqAt A s u v (eqU x u)
  | _, _, .nil, _ => fun u hu => by cases hu
  | y :: xs, u :: us, .cons r t, f => fun u' hu => by
    rw [List.all_cons, Bool.and_eq_true] at f
    rcases List.mem_cons.mp hu with rfl | hu
    · rw [eqU_of r f.1]; exact eqAt_V r rx f.1 fx
    · exact mem_eqAt rx fx t f.2 u' hu
noncomputable def inV (x : V) (xs : List V) : Bool := xs.any fun y => eqV y x
noncomputable def rIn (K : PySem.W.Frag) (neg : Bool) : R2 := fun x y H Q => ∃ p xs, y = .ref p ∧ (SqL K H p xs ∨ SqT K H p xs) ∧ flatV x = true ∧ xs.all flatV = true ∧ Q (.bl (if neg then !inV x xs else inV x xs)) H
theorem op_in_seq : OpR X (compareOp .In) (rIn X.K false) := by
  intro pins s σ H x y v u Q I rx ry h
  obtain ⟨p, xs, rfl, hq, fx, fs, q⟩ := h
  cases ry
  rcases hq with hq | hq
  · obtain ⟨its, r, pl, hz⟩ := I.list hq
    refine SeqAt.in_listAt (eqU x) pl.isList (fun w hw => mem_eqAt rx fx r fs w (by simpa using hw)) ⟨.bl _, H, I, rfl, ?_⟩
    rw [show its.toArray.any (eqU x) = its.any (eqU x) by simp, any_eqU r fs]
    exact q
  · obtain ⟨its, r, pl, hz⟩ := I.tuple hq
    refine SeqAt.in_tupleAt (eqU x) pl (fun w hw => mem_eqAt rx fx r fs w (by simpa using hw)) ⟨.bl _, H, I, rfl, ?_⟩
    rw [show its.toArray.any (eqU x) = its.any (eqU x) by simp, any_eqU r fs]
    exact q
theorem op_notIn_seq : OpR X (compareOp .NotIn) (rIn X.K true) := by
  intro pins s σ H x y v u Q I rx ry h
  obtain ⟨p, xs, rfl, hq, fx, fs, q⟩ := h
  cases ry
  rcases hq with hq | hq
  · obtain ⟨its, r, pl, hz⟩ := I.list hq
    refine SeqAt.notIn_listAt (eqU x) pl.isList (fun w hw => mem_eqAt rx fx r fs w (by simpa using hw)) ⟨.bl _, H, I, rfl, ?_⟩
    rw [show its.toArray.any (eqU x) = its.any (eqU x) by simp, any_eqU r fs]
    exact q
  · obtain ⟨its, r, pl, hz⟩ := I.tuple hq
    refine SeqAt.notIn_tupleAt (eqU x) pl (fun w hw => mem_eqAt rx fx r fs w (by simpa using hw)) ⟨.bl _, H, I, rfl, ?_⟩
    rw [show its.toArray.any (eqU x) = its.any (eqU x) by simp, any_eqU r fs]
    exact q
theorem call_len_seq : CallR X (.builtin "len") (fun xs H Q => ∃ p ys, xs = [.ref p] ∧ (SqL X.K H p ys ∨ SqT X.K H p ys) ∧ Q (.int ys.length) H) := by
  intro pins s σ H xs us Q I r h
  obtain ⟨p, ys, rfl, hq, q⟩ := h
  obtain ⟨u, rfl, rx⟩ := vals1 r
  cases rx
  have hn := line63
  rcases hq with hq | hq
  · obtain ⟨its, r', pl, hz⟩ := I.list hq
    have hlen := r'.length
    exact Calls.call_len_list pl.isList (by simp only [List.size_toArray] <;> omega) ⟨.int ys.length, H, I.tok _, ⟨s.toks + 1, by rw [List.size_toArray, hlen]⟩, q⟩
  · obtain ⟨its, r', pl, hz⟩ := I.tuple hq
    have hlen := r'.length
    exact len_tuple pl (by simp only [List.size_toArray] <;> omega) ⟨.int ys.length, H, I.tok _, ⟨s.toks + 1, by rw [List.size_toArray, hlen]⟩, q⟩
theorem CallR.or {f : Value} {r r' : List V → Hp → VK → Prop} (h : CallR X f r) (h' : CallR X f r') : CallR X f (fun xs H Q => r xs H Q ∨ r' xs H Q) := by
  intro pins s σ H xs us Q I rs q
  rcases q with q | q
  · exact h pins s σ H xs us Q I rs q
  · exact h' pins s σ H xs us Q I rs q
theorem call_list_of : CallR X (.type "list") (fun xs H Q => ∃ p ys, xs = [.ref p] ∧ (SqL X.K H p ys ∨ SqT X.K H p ys) ∧ ∀ l, H l = none → Q (.ref l) (upd H l (.lst ys))) := by
  intro pins s σ H xs us Q I r h
  obtain ⟨p, ys, rfl, hq, q⟩ := h
  obtain ⟨u, rfl, rx⟩ := vals1 r
  cases rx
  have fin : ∀ (its : List Value), Vals ys its → ys.length ≤ sizeLine → ∀ (h' : Heap) (c' : Nat), (∀ b o', s.heap.get? b = some o' → h'.get? b = some o') →
      h'.get? s.heap.objs.size = some { cls := .type "list", dict := none, data := .seq its.toArray c', slots := #[] } → EP X pins σ Q (.ref s.heap.objs.size) { s with heap := h' } := fun its r' hz h' c' kp e =>
    ⟨.ref s.heap.objs.size, _, I.laid (t' := s.toks) kp (Nat.le_refl _) (show ObjOk X.prog X.w _ h' _ (.lst ys) from ⟨hz, its, c', r', e⟩), rfl, q _ (I.hok.fresh (Nat.le_refl _))⟩
  rcases hq with hq | hq
  · obtain ⟨its, r', pl, hz⟩ := I.list hq
    have hlen := r'.length
    obtain ⟨o, ho, hc, n, hd⟩ := pl.isList
    exact call_list_seq p (.inl rfl) ho hc hd (fun h' c' kp e => fin its r' hz h' c' kp e) (by simp only [List.size_toArray] <;> omega)
  · obtain ⟨its, r', pl, hz⟩ := I.tuple hq
    have hlen := r'.length
    obtain ⟨o, ho, hc, n, hd⟩ := pl
    exact call_list_seq p (.inr rfl) ho hc hd (fun h' c' kp e => fin its r' hz h' c' kp e) (by simp only [List.size_toArray] <;> omega)
theorem call_tuple_of : CallR X (.type "tuple") (fun xs H Q => ∃ p ys, xs = [.ref p] ∧ ((SqL X.K H p ys ∧ ∀ l, H l = none → Q (.ref l) (upd H l (.tup ys))) ∨ (SqT X.K H p ys ∧ Q (.ref p) H))) := by
  intro pins s σ H xs us Q I r h
  obtain ⟨p, ys, rfl, h⟩ := h
  obtain ⟨u, rfl, rx⟩ := vals1 r
  cases rx
  rcases h with ⟨hq, q⟩ | ⟨hq, q⟩
  · obtain ⟨its, r', pl, hz⟩ := I.list hq
    have hlen := r'.length
    refine call_tuple_list pl.isList (fun h' kp => ?_) (by simp only [List.size_toArray] <;> omega)
    have I1 : Inv X pins σ H { s with heap := h' } := I.kept (t' := s.toks) kp
    have I2 : Inv X pins σ (upd H h'.objs.size (.tup ys)) { s with heap := h'.push { cls := .type "tuple", data := .seq its.toArray } } :=
      I1.laid (t' := s.toks) (fun b o e => Heap.get?_push_of_some _ e) (Nat.le_refl _) (show ObjOk X.prog X.w _ _ _ (.tup ys) from ⟨hz, its, r', IsTup.new _ _⟩)
    exact ⟨.ref h'.objs.size, _, I2, rfl, q _ (I1.hok.fresh (Nat.le_refl _))⟩
  · obtain ⟨its, r', pl, hz⟩ := I.tuple hq
    exact call_tuple_same pl ⟨.ref p, H, I, rfl, q⟩

noncomputable def tyV (K : PySem.W.Frag) (T : String) (x : V) (H : Hp) : Prop := match x with
  | .str _ => T = "str"
  | .int _ => T = "int"
  | .ref p => (T = "list" ∧ ∃ xs, SqL K H p xs) ∨ (T = "tuple" ∧ ∃ o, K.lookup p = some o ∧ o.cls = .type "tuple" ∧ o.dict = none) ∨
      (T = "dict" ∧ ((∃ kvs, H p = some (.dK kvs)) ∨ ∃ kvs, H p = some (.dT kvs))) ∨ (T = "set" ∧ ∃ S n, H p = some (.set S n))
  | _ => False
theorem tyV_is {pins : List (Addr × Obj)} {σ : St} {H : Hp} {s : Shared} {T : String} {x : V} {v : Value} (I : Inv X pins σ H s) (r : RelV x v) (ty : tyV X.K T x H) :
    s.TypeIs v T ∧ ∀ a, v = .ref a → ∃ ob, s.heap.get? a = some ob ∧ ob.dict = none := by
  cases x with
  | str z =>
    obtain ⟨t, rfl⟩ := r
    cases (show T = "str" from ty)
    exact ⟨typeIs_str s z t, fun _ e => nomatch e⟩
  | int i =>
    obtain ⟨t, rfl⟩ := r
    cases (show T = "int" from ty)
    exact ⟨typeIs_int s i t, fun _ e => nomatch e⟩
  | ref p =>
    cases r
    rcases ty with ⟨rfl, xs, hq⟩ | ⟨rfl, o, hk, hc, hd⟩ | ⟨rfl, hk⟩ | ⟨rfl, S, n, hk⟩
    · obtain ⟨its, _, pl, _⟩ := I.list hq
      refine ⟨pl.isList.typeIs, fun a e => ?_⟩
      cases e
      obtain ⟨o, n, e, c, hd, _⟩ := pl
      exact ⟨o, e, hd⟩
    · refine ⟨⟨o, I.kIn p o hk, hc⟩, fun a e => ?_⟩
      cases e
      exact ⟨o, I.kIn _ o hk, hd⟩
    · have z : ∃ o, s.heap.get? p = some o ∧ o.ExactDict := by
        rcases hk with ⟨kvs, hk⟩ | ⟨kvs, hk⟩
        · obtain ⟨_, _, _, _, o, _, _, e, ex, _⟩ := I.hok p _ hk
          exact ⟨o, e, ex⟩
        · obtain ⟨_, _, _, _, o, _, _, e, ex, _⟩ := I.hok p _ hk
          exact ⟨o, e, ex⟩
      obtain ⟨o, e, ex⟩ := z
      refine ⟨⟨o, e, ex.1⟩, fun a e2 => ?_⟩
      cases e2
      exact ⟨o, e, ex.2.1⟩
    · obtain ⟨o, _, _, _, e, ex, _⟩ := I.hok p _ hk
      refine ⟨⟨o, e, ex.1⟩, fun a e2 => ?_⟩
      cases e2
      exact ⟨o, e, ex.2.1⟩
  | _ => exact False.elim ty
noncomputable def tBM (K : PySem.W.Frag) (T : String) (r : V → List V → Hp → VK → Prop) (to : TE) (t : TA) : TE := fun σ H Q => to σ H fun x H1 => tyV K T x H1 ∧ t σ H1 fun xs H2 => r x xs H2 Q
variable {o e : Expr} {es : List Expr} {to : TE} {t : TA} {name : Str} {apos cpos : Pos} {T id : String} {r : V → List V → Hp → VK → Prop}
theorem pe_bm (pa : PlainAttrs T) (slot : Slot T name id) (hty : typeOf (.builtin id) = pure (.type "method_descriptor")) (hm : MtR X id r) (ho : PE X o to) (ha : PA X (e :: es) t)
    (hbase : attributeBase o name X.env (eval o X.env) = eval o X.env := by rfl)
    (hfew : ((backTo cpos (starEach (e :: es) X.env)).all (fun x => !x.1) && (backToKw cpos (keywordEach [] X.env)).all (fun x => x.1.isSome)
      && decide ((e :: es).length + ([] : List Keyword).length + (if ([] : List Keyword).isEmpty then 0 else 1) < 30)) = true := by rfl)
    (hline : (apos.endLine == cpos.line) = true := by rfl) (hs : starEach (e :: es) X.env = (false, eval e X.env) :: starEach es X.env := by rfl) (hplain : (backTo cpos (starEach es X.env)).any (·.1) = false := by rfl) :
    PE X (.Call (.Attribute o name apos) (e :: es) [] cpos) (tBM X.K T r to t) := by
  intro pins s σ H Q I h
  refine wpAny_Call_method_late hbase hfew hline rfl (thn (ho pins s σ H _ I h) fun v s1 ⟨x, H1, I1, r1, ty, q1⟩ => ?_)
  obtain ⟨h1, h2⟩ := tyV_is I1 r1 ty
  refine ⟨T, id, pa, slot, hty, h1, h2, ?_⟩
  have hA := ha cpos pins s1 σ H1 _ I1 q1
  rw [hs] at hA ⊢
  refine Calls.callWith_builtin (by show (false || (backTo cpos (starEach es X.env)).any (·.1)) = false; rw [hplain] <;> rfl) (Calls.evalArgs_plain ?_)
  exact thn hA fun us s2 ⟨vs, H2, I2, r2, q2⟩ => hm pins s2 σ H2 x vs v us Q I2 r1 r2 q2
end
end L2

namespace L2
open PySem PySem.Spec PyProof.Rows

noncomputable def MtM (X : Cx) (id : String) (r : V → List V → Hp → VK → Prop) : Prop :=
  ∀ (pins : List (Addr × Obj)) (s : Shared) (σ : St) (H : Hp) (x : V) (xs : List V) (v : Value) (us : List Value) (Q : VK), Inv X pins σ H s → RelV x v → Vals xs us → r x xs H Q →
    wpAny (model X.prog X.w) X.A (call (.builtin id) (v :: us)) (EP X pins σ Q) X.xe s

theorem Vals.one : ∀ {x : V} {us : List Value}, Vals [x] us → ∃ u, us = [u] ∧ RelV x u
  | _, _, .cons r .nil => ⟨_, rfl, r⟩
theorem Vals.two : ∀ {x y : V} {us : List Value}, Vals [x, y] us → ∃ u v, us = [u, v] ∧ RelV x u ∧ RelV y v
  | _, _, _, .cons r (.cons q .nil) => ⟨_, _, rfl, r, q⟩
theorem Vals.zero : ∀ {us : List Value}, Vals [] us → us = []
  | _, .nil => rfl
theorem Vals.dropLast {xs : List V} {us : List Value} (h : Vals xs us) : Vals xs.dropLast us.dropLast := by
  induction h with
  | nil => exact .nil
  | cons r t ih =>
    cases t with
    | nil => exact .nil
    | cons q t' => exact .cons r ih
theorem Vals.reverse {xs : List V} {us : List Value} (h : Vals xs us) : Vals xs.reverse us.reverse := by
  induction h with
  | nil => exact .nil
  | cons r t ih => rw [List.reverse_cons, List.reverse_cons]; exact Vals.append ih (.cons r .nil)
theorem Vals.rep {xs : List V} {us : List Value} (h : Vals xs us) : ∀ k : Nat, Vals (List.replicate k xs).flatten (List.replicate k us).flatten
  | 0 => .nil
  | k + 1 => by
    rw [List.replicate_succ, List.replicate_succ, List.flatten_cons, List.flatten_cons]
    exact Vals.append h (Vals.rep h k)
section
variable {X : Cx} {pins : List (Addr × Obj)} {σ : St} {H : Hp} {s : Shared} {l b : Addr} {xs ys zs : List V}

theorem Inv.lset {its its' : List Value} {n : Nat} {f : Array Value → Array Value} {t' : Nat} (I : Inv X pins σ H s) (hH : H l = some (.lst xs))
    (e : s.heap.get? l = some { cls := .type "list", data := .seq its.toArray n }) (hf : f its.toArray = its'.toArray) (hv : Vals ys its') (hz : ys.length ≤ sizeLine) :
    Inv X pins σ (upd H l (.lst ys)) { s with heap := s.heap.update l (Obj.mapSeq f), toks := t' } := by
  have q := PySem.IsL.update e f
  rw [hf] at q
  refine I.write (x := l) (e := l) (by rw [hH]; exact trivial) (.inl rfl) (fun b' u hb hu => (Heap.get?_update_other s.heap (Obj.mapSeq f) (Ne.symm hb)).trans hu) ⟨_, q⟩ ?_
  exact ⟨hz, its', _, hv, q⟩
theorem Inv.lnew {its : List Value} {t' : Nat} (I : Inv X pins σ H s) (hv : Vals ys its) (hz : ys.length ≤ sizeLine) :
    Inv X pins σ (upd H s.heap.objs.size (.lst ys)) { s with heap := s.heap.push { cls := .type "list", data := .seq its.toArray }, toks := t' } :=
  I.laid (fun _ _ q => Heap.get?_push_of_some _ q) (Nat.le_refl _) ⟨hz, its, 0, hv, Heap.get?_push_size _ rfl⟩
theorem Inv.fresh (I : Inv X pins σ H s) : H s.heap.objs.size = none := I.hok.fresh (Nat.le_refl _)
theorem Inv.lstM (I : Inv X pins σ H s) (hH : H l = some (.lst xs)) : xs.length ≤ sizeLine ∧ ∃ (its : List Value) (n : Nat), Vals xs its ∧ xs.length = its.length ∧ s.heap.get? l = some { cls := .type "list", data := .seq its.toArray n } := by
  obtain ⟨z, its, n, r, e⟩ := I.hok l _ hH
  exact ⟨z, its, n, r, r.length, e⟩

theorem notLongL {n : Nat} (h : n ≤ sizeLine) : Builtin.List.listTooLong n = false := by
  unfold Builtin.List.listTooLong
  exact decide_eq_false (by omega)
end

section
variable {X : Cx}

noncomputable def rAppend : V → List V → Hp → VK → Prop := fun x vs H Q => ∃ l xs y, x = .ref l ∧ vs = [y] ∧ H l = some (.lst xs) ∧ xs.length < sizeLine ∧ Q .non (upd H l (.lst (xs ++ [y])))
theorem mt_append : MtM X "list.append" rAppend := by
  intro pins s σ H x vs v us Q I rx rv h
  obtain ⟨l, xs, y, rfl, rfl, hH, hz, q⟩ := h
  cases rx
  obtain ⟨u, rfl, ru⟩ := rv.one
  obtain ⟨z, its, n, r, hl, e⟩ := I.lstM hH
  refine call_meets F.slot_list_append ⟨_, e, rfl⟩ F.entry_list_append (F.args_list_append_2 _ _) (PySem.list_append l its.toArray n u (by rw [List.size_toArray]; omega)) ⟨e, ?_⟩
  refine ⟨.non, _, I.lset (its' := its ++ [u]) hH e (by simp) (r.append (.cons ru .nil)) ?_, rfl, q⟩
  rw [List.length_append, List.length_singleton]
  omega

noncomputable def rExtend : V → List V → Hp → VK → Prop := fun x vs H Q => ∃ l b xs zs, x = .ref l ∧ vs = [.ref b] ∧ H l = some (.lst xs) ∧ H b = some (.lst zs) ∧ xs.length + zs.length ≤ sizeLine ∧ Q .non (upd H l (.lst (xs ++ zs)))
theorem mt_extend : MtM X "list.extend" rExtend := by
  intro pins s σ H x vs v us Q I rx rv h
  obtain ⟨l, b, xs, zs, rfl, rfl, hH, hB, hz, q⟩ := h
  cases rx
  obtain ⟨u, rfl, ru⟩ := rv.one
  cases ru
  obtain ⟨z, its, n, r, hl, e⟩ := I.lstM hH
  obtain ⟨z2, its2, n2, r2, hl2, e2⟩ := I.lstM hB
  have hsz : its.toArray.size + its2.toArray.size ≤ sizeLine := by rw [List.size_toArray, List.size_toArray]; omega
  have hlong : ¬ (!its.toArray.isEmpty && Builtin.List.listTooLong (its.toArray.size + its2.toArray.size)) = true := by
    rw [notLongL hsz, Bool.and_false]
    exact Bool.false_ne_true
  refine call_meets F.slot_list_extend ⟨_, e, rfl⟩ F.entry_list_extend (F.args_list_extend_2 _ _)
    (AutoSeq1.list_extend_list_list_0 l its.toArray n b its2.toArray n2 hlong (by rw [List.size_toArray]; omega) (by omega)) ⟨e, e2, ?_⟩
  refine ⟨.non, _, I.lset (its' := its ++ its2) hH e (by simp) (r.append r2) ?_, rfl, q⟩
  rw [List.length_append]
  omega

noncomputable def rCat : R2 := fun x y H Q => ∃ l b xs zs, x = .ref l ∧ y = .ref b ∧ H l = some (.lst xs) ∧ H b = some (.lst zs) ∧ xs.length + zs.length ≤ sizeLine ∧ ∀ p, H p = none → Q (.ref p) (upd H p (.lst (xs ++ zs)))
theorem op_cat : OpR X (binaryOp .Add) rCat := by
  intro pins s σ H x y v u Q I rx ry h
  obtain ⟨l, b, xs, zs, rfl, rfl, hH, hB, hz, q⟩ := h
  cases rx
  cases ry
  obtain ⟨z, its, n, r, hl, e⟩ := I.lstM hH
  obtain ⟨z2, its2, n2, r2, hl2, e2⟩ := I.lstM hB
  refine PySem.P.add_list e e2 ?_ (by rw [List.size_toArray, List.size_toArray]; omega)
  have ea : its.toArray ++ its2.toArray = (its ++ its2).toArray := by simp
  rw [ea]
  exact ⟨.ref _, _, I.lnew (t' := s.toks) (r.append r2) (by rw [List.length_append]; omega), rfl, q _ I.fresh⟩
end

section
variable {prog : Program} {w : World} {A : Around} {E : Value → Shared → Prop} {s : Shared}
end

section
variable {X : Cx}
end
end L2

namespace L2
open PySem PySem.Spec PyProof.Rows

section
variable {κ : Type} [DecidableEq κ]
noncomputable def valV (kvs : List (κ × V)) (k : κ) : Option V := (kvs.find? fun kv => decide (kv.1 = k)).map (·.2)
noncomputable def putK (kvs : List (κ × V)) (k : κ) (v : V) : List (κ × V) :=
  if (kvs.any fun kv => decide (kv.1 = k)) = true then kvs.map (fun kv => if kv.1 = k then (kv.1, v) else kv) else kvs ++ [(k, v)]
noncomputable def dropK (kvs : List (κ × V)) (k : κ) : List (κ × V) := kvs.filter fun kv => decide (kv.1 ≠ k)

theorem valV_pos {p : κ × V} {r : List (κ × V)} {k : κ} (e : p.1 = k) : valV (p :: r) k = some p.2 := by simp [valV, List.find?_cons, e]
theorem valV_neg {p : κ × V} {r : List (κ × V)} {k : κ} (e : ¬ p.1 = k) : valV (p :: r) k = valV r k := by simp [valV, List.find?_cons, e]
theorem valV_any (k : κ) : ∀ kvs : List (κ × V), (kvs.any fun kv => decide (kv.1 = k)) = (valV kvs k).isSome
  | [] => rfl
  | p :: r => by
    rw [List.any_cons]
    by_cases e : p.1 = k
    · simp only [valV_pos e, decide_eq_true e, Bool.true_or, Option.isSome_some]
    · rw [valV_neg e, decide_eq_false e, Bool.false_or]; exact valV_any k r
theorem valV_map (k j : κ) (y : V) : ∀ kvs : List (κ × V), valV (kvs.map fun kv => if kv.1 = k then (kv.1, y) else kv) j = (valV kvs j).map fun x => if j = k then y else x
  | [] => rfl
  | p :: r => by
    have ih := valV_map k j y r
    rw [List.map_cons]
    by_cases h : p.1 = k
    · rw [if_pos h]
      by_cases e : p.1 = j
      · rw [valV_pos (p := (p.1, y)) e, valV_pos e, Option.map_some, if_pos (e.symm.trans h)]
      · rw [valV_neg (p := (p.1, y)) e, valV_neg e, ih]
    · rw [if_neg h]
      by_cases e : p.1 = j
      · rw [valV_pos (p := p) e, valV_pos e, Option.map_some, if_neg (fun z => h (e.trans z))]
      · rw [valV_neg (p := p) e, valV_neg e, ih]
theorem valV_snoc (k j : κ) (y : V) : ∀ kvs : List (κ × V), valV kvs k = none → valV (kvs ++ [(k, y)]) j = if j = k then some y else valV kvs j
  | [], _ => by
    by_cases e : k = j
    · rw [if_pos e.symm]; exact valV_pos (p := (k, y)) e
    · rw [if_neg (fun z => e z.symm)]; exact valV_neg (p := (k, y)) e
  | p :: r, hn => by
    rw [List.cons_append]
    have hk : ¬ p.1 = k := fun z => by rw [valV_pos z] at hn; cases hn
    rw [valV_neg hk] at hn
    have ih := valV_snoc k j y r hn
    by_cases e : p.1 = j
    · rw [valV_pos e, valV_pos e, if_neg (fun z => hk (e.trans z))]
    · rw [valV_neg e, valV_neg e, ih]
theorem valV_put (kvs : List (κ × V)) (k j : κ) (y : V) : valV (putK kvs k y) j = if j = k then some y else valV kvs j := by
  unfold putK
  by_cases a : (kvs.any fun kv => decide (kv.1 = k)) = true
  · rw [if_pos a, valV_map]
    rw [valV_any] at a
    by_cases e : j = k
    · obtain ⟨x, hx⟩ := Option.isSome_iff_exists.mp a
      rw [if_pos e, e, hx, Option.map_some, if_pos rfl]
    · rw [if_neg e]
      cases valV kvs j with
      | none => rfl
      | some x => rw [Option.map_some, if_neg e]
  · rw [if_neg a]
    refine valV_snoc k j y kvs ?_
    rw [valV_any] at a
    cases q : valV kvs k with
    | none => rfl
    | some x => rw [q] at a; exact (a rfl).elim
theorem length_putK (kvs : List (κ × V)) (k : κ) (v : V) : (putK kvs k v).length ≤ kvs.length + 1 := by
  unfold putK
  split
  · rw [List.length_map]; omega
  · rw [List.length_append, List.length_cons, List.length_nil]; omega
theorem RelO.isSome_eq {o : Option V} {u : Option Value} (r : RelO o u) : o.isSome = u.isSome := by
  cases o with
  | none => cases u with
    | none => rfl
    | some _ => exact (show False from r).elim
  | some _ => cases u with
    | none => exact (show False from r).elim
    | some _ => rfl
theorem RelO.getD {o : Option V} {u : Option Value} {d : V} {d' : Value} (r : RelO o u) (rd : RelV d d') : RelV (o.getD d) (u.getD d') := by
  cases o with
  | none => cases u with
    | none => exact rd
    | some _ => exact (show False from r).elim
  | some _ => cases u with
    | none => exact (show False from r).elim
    | some _ => exact r

theorem KV.val {kvs : List (κ × V)} {vs : List (κ × Value)} (r : KV kvs vs) (k : κ) : RelO (valV kvs k) (valueAt vs k) := by
  unfold KV at r
  induction r with
  | nil => exact True.intro
  | @cons p q ps qs h t ih =>
    obtain ⟨h1, h2⟩ := h
    by_cases e : p.1 = k
    · have e' : q.1 = k := h1.symm.trans e
      have b : valueAt (q :: qs) k = some q.2 := by simp [valueAt, List.find?_cons, e']
      rw [valV_pos e, b]; exact h2
    · have e' : ¬ q.1 = k := fun z => e (h1.trans z)
      have b : valueAt (q :: qs) k = valueAt qs k := by simp [valueAt, List.find?_cons, e']
      rw [valV_neg e, b]; exact ih
theorem KV.any {kvs : List (κ × V)} {vs : List (κ × Value)} (r : KV kvs vs) (k : κ) : (kvs.any fun kv => decide (kv.1 = k)) = vs.any fun kv => decide (kv.1 = k) := by
  unfold KV at r
  induction r with
  | nil => rfl
  | cons h t ih => rw [List.any_cons, List.any_cons, ih, h.1]
theorem KV.repl {kvs : List (κ × V)} {vs : List (κ × Value)} (r : KV kvs vs) (k : κ) {y : V} {u : Value} (ry : RelV y u) :
    KV (kvs.map fun kv => if kv.1 = k then (kv.1, y) else kv) (vs.map fun kv => if kv.1 = k then (kv.1, u) else kv) := by
  unfold KV at r ⊢
  induction r with
  | nil => exact .nil
  | @cons p q ps qs h t ih =>
    rw [List.map_cons, List.map_cons]
    refine .cons ?_ ih
    obtain ⟨h1, h2⟩ := h
    by_cases e : p.1 = k
    · rw [if_pos e, if_pos (h1.symm.trans e)]; exact ⟨h1, ry⟩
    · rw [if_neg e, if_neg (fun z => e (h1.trans z))]; exact ⟨h1, h2⟩
theorem KV.put {kvs : List (κ × V)} {vs : List (κ × Value)} (r : KV kvs vs) (k : κ) {y : V} {u : Value} (ry : RelV y u) : KV (putK kvs k y) (stored vs k u) := by
  unfold putK stored
  rw [r.any k]
  by_cases e : (vs.any fun kv => decide (kv.1 = k)) = true
  · rw [if_pos e, if_pos e]; exact r.repl k ry
  · rw [if_neg e, if_neg e]; exact Paired.snoc r ⟨rfl, ry⟩
theorem KV.drop {kvs : List (κ × V)} {vs : List (κ × Value)} (r : KV kvs vs) (k : κ) : KV (dropK kvs k) (without vs k) := by
  unfold KV at r ⊢
  unfold dropK without
  induction r with
  | nil => exact .nil
  | @cons p q ps qs h t ih =>
    obtain ⟨h1, h2⟩ := h
    rw [List.filter_cons, List.filter_cons]
    by_cases e : p.1 = k
    · have a : ¬ decide (p.1 ≠ k) = true := by simp [e]
      have b : ¬ decide (q.1 ≠ k) = true := by simp [h1.symm.trans e]
      rw [if_neg a, if_neg b]; exact ih
    · have e' : ¬ q.1 = k := fun z => e (h1.trans z)
      have a : decide (p.1 ≠ k) = true := by simp [e]
      have b : decide (q.1 ≠ k) = true := by simp [e']
      rw [if_pos a, if_pos b]; exact .cons ⟨h1, h2⟩ ih
theorem KV.keys {kvs : List (κ × V)} {vs : List (κ × Value)} (r : KV kvs vs) : kvs.map (·.1) = vs.map (·.1) := by
  unfold KV at r
  induction r with
  | nil => rfl
  | cons h t ih => rw [List.map_cons, List.map_cons, ih, h.1]
theorem KV.length {kvs : List (κ × V)} {vs : List (κ × Value)} (r : KV kvs vs) : kvs.length = vs.length := Paired.length r
end


theorem kV_is {P : Program} {w : World} {k : Key} {u : Value} (r : RelV (kV k) u) : (mixKind P w).is k u = true := by
  cases k with
  | inl i => obtain ⟨t, e⟩ := (show ∃ t, u = Value.int i t from r); subst e; exact mixKind_int P w i t
  | inr x => obtain ⟨t, e⟩ := (show ∃ t, u = Value.str x t from r); subst e; exact mixKind_str P w x t
theorem items_are {P : Program} {w : World} : ∀ {ks : List Key} {us : List Value}, Vals (ks.map kV) us → ItemsAre (mixKind P w) ks us
  | [], _, r => by rw [List.map_nil] at r; cases r; exact .nil
  | k :: ks, _, r => by
    rw [List.map_cons] at r
    cases r with
    | cons h t => exact .cons (kV_is h) (items_are t)

noncomputable abbrev KT (H : Hp) : List (List Key × V) → List (List Key × Addr × Value) → Prop := Paired fun p q => p.1 = q.1 ∧ H q.2.1 = some (.tup (p.1.map kV)) ∧ RelV p.2 q.2.2
theorem KT.val {H : Hp} {kvs : List (List Key × V)} {xs : List (List Key × Addr × Value)} (r : KT H kvs xs) (k : List Key) : RelO (valV kvs k) ((atKey xs k).map (·.2)) := by
  induction r with
  | nil => exact True.intro
  | @cons p q ps qs h t ih =>
    obtain ⟨h1, _, h2⟩ := h
    by_cases e : p.1 = k
    · have e' : q.1 = k := h1.symm.trans e
      have b : atKey (q :: qs) k = some q.2 := by simp [atKey, List.find?_cons, e']
      rw [valV_pos e, b]; exact h2
    · have e' : ¬ q.1 = k := fun z => e (h1.trans z)
      have b : atKey (q :: qs) k = atKey qs k := by simp [atKey, List.find?_cons, e']
      rw [valV_neg e, b]; exact ih
theorem KT.repl {H : Hp} {kvs : List (List Key × V)} {xs : List (List Key × Addr × Value)} (r : KT H kvs xs) (k : List Key) {y : V} {u : Value} (ry : RelV y u) :
    KT H (kvs.map fun kv => if kv.1 = k then (kv.1, y) else kv) (xs.map (putAt k u)) := by
  induction r with
  | nil => exact .nil
  | @cons p q ps qs h t ih =>
    rw [List.map_cons, List.map_cons]
    refine .cons ?_ ih
    obtain ⟨h1, h2, h3⟩ := h
    unfold putAt
    by_cases e : p.1 = k
    · rw [if_pos e, if_pos (h1.symm.trans e)]; exact ⟨h1, h2, ry⟩
    · rw [if_neg e, if_neg (fun z => e (h1.trans z))]; exact ⟨h1, h2, h3⟩
theorem KT.put {H : Hp} {kvs : List (List Key × V)} {xs : List (List Key × Addr × Value)} (r : KT H kvs xs) (k : List Key) {b : Addr} {y : V} {u : Value} (hb : H b = some (.tup (k.map kV))) (ry : RelV y u) :
    KT H (putK kvs k y) (storedH xs k b u) := by
  have e : (kvs.any fun kv => decide (kv.1 = k)) = (atKey xs k).isSome := by
    rw [valV_any, (r.val k).isSome_eq, Option.isSome_map]
  unfold putK storedH
  rw [e]
  by_cases q : (atKey xs k).isSome = true
  · rw [if_pos q, if_pos q]; exact r.repl k ry
  · rw [if_neg q, if_neg q]; exact Paired.snoc r ⟨rfl, hb, ry⟩
theorem KT.keeps {H H' : Hp} {kvs : List (List Key × V)} {xs : List (List Key × Addr × Value)} (r : KT H kvs xs) (ht : ∀ b ys, H b = some (.tup ys) → H' b = some (.tup ys)) : KT H' kvs xs :=
  Paired.mapP r fun _ _ z => ⟨z.1, ht _ _ z.2.1, z.2.2⟩

section
variable {P : Program} {w : World} {H : Hp} {h : Heap} {a : Addr}
theorem rd_of {u : HO} (ok : HOk P w H h) (e : Rd H a u) : ObjOk P w H h a u := e.ok ok
theorem dk_rd {kvs : List (Key × V)} (ok : HOk P w H h) (e : Rd H a (.dK kvs)) : kvs.length ≤ sizeLine ∧ (a == sysModules) = false ∧ ∃ vs, KV kvs vs ∧ h.DictOf (mixKind P w) a vs :=
  show ObjOk P w H h a (.dK kvs) from rd_of ok e
theorem dk_of {kvs : List (Key × V)} (ok : HOk P w H h) (e : H a = some (.dK kvs)) : kvs.length ≤ sizeLine ∧ (a == sysModules) = false ∧ ∃ vs, KV kvs vs ∧ h.DictOf (mixKind P w) a vs := dk_rd ok (.inl e)
theorem key_of {ks : List Key} (ok : HOk P w H h) (e : H a = some (.tup (ks.map kV))) : (tupleKind (mixKind P w)).is h ks a := by
  obtain ⟨_, its, r, o, h1, h2, n, h3⟩ := (show ObjOk P w H h a (.tup (ks.map kV)) from ok a _ e)
  exact ⟨o, its.toArray, n, h1, h2, h3, by simpa using items_are r⟩
theorem dt_rd {kvs : List (List Key × V)} (ok : HOk P w H h) (e : Rd H a (.dT kvs)) : kvs.length ≤ sizeLine ∧ (a == sysModules) = false ∧
    ∃ xs, KT H kvs xs ∧ h.DictOfH (tupleKind (mixKind P w)) a xs := by
  obtain ⟨z, y, xs, r, o, es, ep, h1, h2, h3, h4, h5⟩ := (show ObjOk P w H h a (.dT kvs) from rd_of ok e)
  refine ⟨z, y, xs, r, o, es, ep, h1, h2, h3, h4, fun x hx => ?_, h5⟩
  have all : ∀ {l : List (List Key × V)} {m : List (List Key × Addr × Value)}, KT H l m → ∀ x ∈ m, (tupleKind (mixKind P w)).is h x.1 x.2.1 := by
    intro l m q
    induction q with
    | nil => intro x hx; exact nomatch hx
    | @cons p q ps qs hq t ih =>
      intro x hx
      rcases List.mem_cons.mp hx with e | hx
      · subst e
        exact key_of ok (by rw [← hq.1]; exact hq.2.1)
      · exact ih x hx
  exact all r x hx
theorem dt_of {kvs : List (List Key × V)} (ok : HOk P w H h) (e : H a = some (.dT kvs)) : kvs.length ≤ sizeLine ∧ (a == sysModules) = false ∧
    ∃ xs, KT H kvs xs ∧ h.DictOfH (tupleKind (mixKind P w)) a xs := dt_rd ok (.inl e)
end

noncomputable def DGet (H : Hp) (a : Addr) (y : V) (r : Option V) : Prop :=
  (∃ kvs k, Rd H a (.dK kvs) ∧ y = kV k ∧ r = valV kvs k) ∨ ∃ kvs k b, Rd H a (.dT kvs) ∧ y = .ref b ∧ H b = some (.tup (k.map kV)) ∧ r = valV kvs k
noncomputable def DPut (H : Hp) (a : Addr) (y v : V) (H' : Hp) : Prop :=
  (∃ kvs k, H a = some (.dK kvs) ∧ y = kV k ∧ kvs.length < sizeLine ∧ H' = upd H a (.dK (putK kvs k v))) ∨
  ∃ kvs k b, H a = some (.dT kvs) ∧ y = .ref b ∧ H b = some (.tup (k.map kV)) ∧ kvs.length < sizeLine ∧ H' = upd H a (.dT (putK kvs k v))
theorem DGet.k {H : Hp} {a : Addr} {kvs : List (Key × V)} {k : Key} (e : H a = some (.dK kvs)) : DGet H a (kV k) (valV kvs k) := .inl ⟨kvs, k, .inl e, rfl, rfl⟩
theorem DGet.t {H : Hp} {a b : Addr} {kvs : List (List Key × V)} {k : List Key} (e : H a = some (.dT kvs)) (eb : H b = some (.tup (k.map kV))) : DGet H a (.ref b) (valV kvs k) := .inr ⟨kvs, k, b, .inl e, rfl, eb, rfl⟩
theorem DPut.k {H : Hp} {a : Addr} {kvs : List (Key × V)} {k : Key} {v : V} (e : H a = some (.dK kvs)) (hl : kvs.length < sizeLine) : DPut H a (kV k) v (upd H a (.dK (putK kvs k v))) := .inl ⟨kvs, k, e, rfl, hl, rfl⟩
theorem DPut.t {H : Hp} {a b : Addr} {kvs : List (List Key × V)} {k : List Key} {v : V} (e : H a = some (.dT kvs)) (eb : H b = some (.tup (k.map kV))) (hl : kvs.length < sizeLine) :
    DPut H a (.ref b) v (upd H a (.dT (putK kvs k v))) := .inr ⟨kvs, k, b, e, rfl, eb, hl, rfl⟩


section
variable {X : Cx} {pins : List (Addr × Obj)} {σ : St} {H : Hp} {s : Shared} {a : Addr} {y v : V} {u r : Value} {o : Option V} {A : Around} {E : Value → Shared → Prop}

theorem Inv.big (I : Inv X pins σ H s) : sysModules < s.heap.objs.size := by
  have h : mainGlobals < s.heap.objs.size := (I.mod.glob.keeps I.bk).lt
  exact Nat.lt_trans (by decide) h

theorem d_getItem {Q : Value → Shared → Prop} (hu : A.units + 1 < cLine) (I : Inv X pins σ H s) (g : DGet H a y (some v)) (ry : RelV y u) (h : ∀ w' s', Inv X pins σ H s' → RelV v w' → Q w' s') :
    wpAny (model X.prog X.w) A (getItem (.ref a) u) Q E s := by
  rcases g with ⟨kvs, k, e, ey, l⟩ | ⟨kvs, k, b, e, ey, eb, l⟩
  · subst ey
    obtain ⟨z, hd, vs, rel, dd⟩ := dk_rd I.hok e
    obtain ⟨w', hw, rw'⟩ := RelO.some_of (v := v) (o := valueAt vs k) (by rw [l]; exact rel.val k)
    exact wpAny_getItem_of (kV_is ry) dd.mapOf hw (h w' _ (I.tok _) rw')
  · subst ey
    cases (show u = Value.ref b from ry)
    obtain ⟨z, hd, xs, rel, dd⟩ := dt_rd I.hok e
    obtain ⟨w', hw, rw'⟩ := RelO.some_of (v := v) (o := (atKey xs k).map (·.2)) (by rw [l]; exact rel.val k)
    obtain ⟨p, hp, hp2⟩ := Option.map_eq_some_iff.mp hw
    refine wpAny_getItem_heap (tupleKind_room_in1 hu) (key_of I.hok eb) dd hp ?_
    rw [hp2]
    exact h w' _ (I.tok _) rw'
theorem d_in {Q : Value → Shared → Prop} (hu : A.units + 1 < cLine) (I : Inv X pins σ H s) (g : DGet H a y o) (ry : RelV y u) (h : ∀ s', Inv X pins σ H s' → Q (.bool o.isSome) s') :
    wpAny (model X.prog X.w) A (compareOp .In u (.ref a)) Q E s := by
  rcases g with ⟨kvs, k, e, ey, l⟩ | ⟨kvs, k, b, e, ey, eb, l⟩
  · subst ey
    obtain ⟨z, hd, vs, rel, dd⟩ := dk_rd I.hok e
    refine wpAny_in_of (kV_is ry) hd dd.mapOf ?_
    rw [← (rel.val k).isSome_eq, ← l]
    exact h _ (I.tok _)
  · subst ey
    cases (show u = Value.ref b from ry)
    obtain ⟨z, hd, xs, rel, dd⟩ := dt_rd I.hok e
    refine wpAny_in_heap (tupleKind_room_in1 hu) (key_of I.hok eb) hd dd ?_
    have q := (rel.val k).isSome_eq
    rw [Option.isSome_map] at q
    rw [← q, ← l]
    exact h _ (I.tok _)
theorem d_write {h' : Heap} {t' : Nat} {ob : HO} (I : Inv X pins σ H s) (mu : Mut (H a)) (hs : Heap.SameBut a s.heap h') (he : ∃ q, h'.get? a = some q) (new : ObjOk X.prog X.w (upd H a ob) h' a ob) :
    Inv X pins σ (upd H a ob) { s with heap := h', toks := t' } :=
  I.write (x := a) (e := a) mu (.inl rfl) (fun b q hb z => (hs.2 b hb).trans z) he new
theorem dk_new {P : Program} {w : World} {H' : Hp} {h' : Heap} {kvs : List (Key × V)} {vs : List (Key × Value)} (z : kvs.length ≤ sizeLine) (hd : (a == sysModules) = false) (rel : KV kvs vs) (dd : h'.DictOf (mixKind P w) a vs) :
    ObjOk P w H' h' a (.dK kvs) := ⟨z, hd, vs, rel, dd⟩
theorem d_setItem {H' : Hp} {Q : Unit → Shared → Prop} (hu : A.units + 1 < cLine) (I : Inv X pins σ H s) (g : DPut H a y v H') (ry : RelV y u) (rv : RelV v r) (h : ∀ s', Inv X pins σ H' s' → Q () s') :
    wpAny (model X.prog X.w) A (setItem (.ref a) u r) Q E s := by
  rcases g with ⟨kvs, k, e, ey, l, eH⟩ | ⟨kvs, k, b, e, ey, eb, l, eH⟩
  · subst ey eH
    obtain ⟨z, hd, vs, rel, dd⟩ := dk_of I.hok e
    have hz : vs.length ≤ sizeLine := by rw [← rel.length]; exact z
    have hl : (putK kvs k v).length ≤ sizeLine := by have := length_putK kvs k v; omega
    refine wpAny_setItem_pairs (hsz := hz) (kV_is ry) dd fun h' dd' hs => h _ ?_
    have he : ∃ q, h'.get? a = some q := let ⟨q, _, _, hq, _⟩ := dd'; ⟨q, hq⟩
    exact d_write I (by rw [e]; exact True.intro) hs he (dk_new hl hd (rel.put k rv) dd')
  · subst ey eH
    cases (show u = Value.ref b from ry)
    obtain ⟨z, hd, xs, rel, dd⟩ := dt_of I.hok e
    have hz : xs.length ≤ sizeLine := by rw [← Paired.length rel]; exact z
    have hl : (putK kvs k v).length ≤ sizeLine := by have := length_putK kvs k v; omega
    refine wpAny_setItem_heap (hsz := hz) (tupleKind_room_in1 hu) (key_of I.hok eb) dd fun h' dd' hs => h _ ?_
    obtain ⟨q, es, ep, hq, h2, h3, h4, _, h5⟩ := dd'
    refine d_write I (by rw [e]; exact True.intro) hs ⟨q, hq⟩ ⟨hl, hd, _, (rel.put k eb rv).keeps fun c ys ec => ?_, q, es, ep, hq, h2, h3, h4, h5⟩
    rw [upd_ne (ne_of ec e (fun z => nomatch z))]
    exact ec
end

section
variable {X : Cx} {pins : List (Addr × Obj)} {σ : St} {H : Hp} {s : Shared} {a : Addr} {kvs : List (Key × V)} {k : Key} {u : Value} {A : Around} {E : Value → Shared → Prop}
end


noncomputable def NoSl (i : Expr) : Prop := ∀ ov iv, subscripted i false ov iv = operate [ov, iv] (getItem ov iv)
theorem subD_of {prog : Program} {w : World} {A : Around} {E : Value → Shared → Prop} {s : Shared} {env : Env} {value slice : Expr} {pos : Pos} {T id : String} {Q : Value → Shared → Prop}
    (hl : typeLookup (.type T) "__getitem__" = pure (some (.builtin id))) (hs : NoSl slice)
    (h : wpAny (model prog w) A (eval value env) (fun o s₁ => wpAny (model prog w) A (eval slice env) (fun i s₂ => s₂.TypeIs o T ∧ wpAny (model prog w) A (getItem o i) Q E s₂) E s₁) E s) :
    wpAny (model prog w) A (eval (.Subscript value slice pos) env) Q E s := by
  refine Subscript_ (wpAny_mono h (fun o s₁ h₁ => wpAny_mono h₁ (fun i s₂ h₂ => ?_) fun _ _ x => x) fun _ _ x => x)
  obtain ⟨hT, h₂⟩ := h₂
  unfold subscriptTail
  refine wpAny_bind ?_
  rw [getitemInPython_of_ne hT.not_modules]
  refine wpAny_bind (wpAny_specialOf hT hl ?_)
  have fin : wpAny (model prog w) A (subscripted slice false o i) (fun r s₃ => wpAny (model prog w) A (letTemporaryGo value o r >>= fun _ => pure r) Q E s₃) E s₂ := by
    rw [hs o i]
    exact wpAny_operating (wpAny_mono h₂ (fun r s₃ h₃ => wpAny_bind (wpAny_letTemporaryGo (wpAny_pure h₃))) fun _ _ x => x)
  first
    | exact wpAny_pure (wpAny_bind fin)
    | exact wpAny_bind (wpAny_pure (wpAny_bind fin))
    | exact wpAny_bind fin

theorem dict_typeIs {X : Cx} {pins : List (Addr × Obj)} {σ : St} {H : Hp} {s : Shared} {a : Addr} {y : V} {o : Option V} (I : Inv X pins σ H s) (g : DGet H a y o) : s.TypeIs (.ref a) "dict" := by
  rcases g with ⟨kvs, k, e, _, _⟩ | ⟨kvs, k, b, e, _, _, _⟩
  · obtain ⟨_, _, vs, _, dd⟩ := dk_rd I.hok e
    exact dd.typeIs
  · obtain ⟨_, _, xs, _, dd⟩ := dt_rd I.hok e
    exact dd.typeIs
noncomputable def tDGet (td ty : TE) : TE := fun σ H Q => td σ H fun x H1 => ty σ H1 fun y H2 => ∃ a v, x = .ref a ∧ DGet H2 a y (some v) ∧ Q v H2
noncomputable def tDIn (ty td : TE) : TE := fun σ H Q => ty σ H fun y H1 => td σ H1 fun x H2 => ∃ a o, x = .ref a ∧ DGet H2 a y o ∧ Q (.bl o.isSome) H2
noncomputable def sDPut (td ty tv : TE) : TS := fun D σ H => tv σ H fun v H1 => td σ H1 fun x H2 => ty σ H2 fun y H3 => ∃ a H4, x = .ref a ∧ DPut H3 a y v H4 ∧ D.nx σ H4
section
variable {X : Cx} {o i e value : Expr} {pos pos' tpos : Pos} {td ty tv : TE}
theorem pe_dget (hu : X.A.units + 1 < cLine) (ho : PE X o td) (hi : PE X i ty) (hs : NoSl i) : PE X (.Subscript o i pos) (tDGet td ty) := by
  intro pins s σ H Q I h
  refine subD_of PySem.F.slot_dict_getitem.lookup hs (thn (ho pins s σ H _ I h) fun u s1 ⟨x, H1, I1, rx, q1⟩ => thn (hi pins s1 σ H1 _ I1 q1) fun iv s2 ⟨y, H2, I2, ry, a, v, ex, g, q2⟩ => ?_)
  subst ex
  obtain rfl : u = Value.ref a := rx
  exact ⟨dict_typeIs I2 g, d_getItem hu I2 g ry fun w' s3 I3 rw' => ⟨v, H2, I3, rw', q2⟩⟩
theorem pc_din (hu : X.A.units + 1 < cLine) (hi : PE X i ty) (ho : PE X o td) : PC X .In i o (tDIn ty td) := by
  intro pins s σ H Q I h
  refine thn (hi pins s σ H _ I h) fun iv s1 ⟨y, H1, I1, ry, q1⟩ => thn (ho pins s1 σ H1 _ I1 q1) fun u s2 ⟨x, H2, I2, rx, a, ov, ex, g, q2⟩ => ?_
  subst ex
  obtain rfl : u = Value.ref a := rx
  exact d_in hu I2 g ry fun s3 I3 => ⟨.bl ov.isSome, H2, I3, rfl, q2⟩
theorem ps_dput (hu : X.A.units + 1 < cLine) (ho : PE X o td) (hi : PE X i ty) (hv : PE X value tv) (hs : swapsWith value (some (.Subscript o i pos')) pos.line X.env = pure false) :
    PS X (.Assign [.Subscript o i pos'] value pos) (sDPut td ty tv) := by
  intro pins s σ H D I h
  refine wpAny_Assign_Subscript (thn (hv pins s σ H _ I h) fun r s1 ⟨v, H1, I1, rv, q1⟩ => thn (ho pins s1 σ H1 _ I1 q1) fun u s2 ⟨x, H2, I2, rx, q2⟩ => thn (hi pins s2 σ H2 _ I2 q2) fun iv s3 ⟨y, H3, I3, ry, a, H4, ex, g, q3⟩ => ?_) hs
  subst ex
  obtain rfl : u = Value.ref a := rx
  exact d_setItem hu I3 g ry rv fun s4 I4 => ⟨σ, H4, I4, q3⟩
end


theorem dk_empty {P : Program} {w : World} {H : Hp} (h : Heap) (hb : sysModules < h.objs.size) : ObjOk P w H (h.push { cls := .type "dict", data := .dict #[] }) h.objs.size (.dK []) :=
  ⟨Nat.zero_le _, beq_eq_false_iff_ne.mpr (Ne.symm (Nat.ne_of_lt hb)), [], .nil, Heap.DictOf.new h⟩
noncomputable def tDNewK : TE := fun _ H Q => ∀ p, H p = none → Q (.ref p) (upd H p (.dK []))
section
variable {X : Cx} {pos : Pos}
theorem pe_dnewK : PE X (.Dict [] [] pos) tDNewK := fun pins s σ H Q I h =>
  wpAny_Dict_empty ⟨.ref s.heap.objs.size, _, I.laid (a := s.heap.objs.size) (o := .dK []) (t' := s.toks) (fun _ _ q => Heap.get?_push_of_some _ q) (Nat.le_refl _) (dk_empty s.heap I.big), rfl, h _ (I.hok.fresh (Nat.le_refl _))⟩
end

noncomputable def tPairs : List (TE × TE) → St → Hp → (List (V × V) → Hp → Prop) → Prop
  | [], _, H, Q => Q [] H
  | (tk, tv) :: r, σ, H, Q => tk σ H fun x H1 => tv σ H1 fun y H2 => tPairs r σ H2 fun ps H3 => Q ((x, y) :: ps) H3
noncomputable abbrev VV : List (V × V) → List (Value × Value) → Prop := Paired fun p q => RelV p.1 q.1 ∧ RelV p.2 q.2
noncomputable def PPs (X : Cx) (pos : Pos) (keys : List (Option Expr)) (values : List Expr) (trs : List (TE × TE)) : Prop :=
  ∀ (pins : List (Addr × Obj)) (s : Shared) (σ : St) (H : Hp) (Q : List (V × V) → Hp → Prop), Inv X pins σ H s → tPairs trs σ H Q →
    wpAny (model X.prog X.w) X.A (evalPairs (pairTrees keys values X.env pos)) (fun vs s' => ∃ ps H', Inv X pins σ H' s' ∧ VV ps vs ∧ Q ps H') X.xe s
theorem pps_nil {X : Cx} {pos : Pos} : PPs X pos [] [] [] := fun pins s σ H Q I h => pairTrees_nil_walk ⟨[], H, I, .nil, h⟩
theorem pps_cons {X : Cx} {pos : Pos} {k v : Expr} {ks : List (Option Expr)} {vs : List Expr} {tk tv : TE} {trs : List (TE × TE)} (hk : PE X k tk) (hv : PE X v tv) (hr : PPs X pos ks vs trs) :
    PPs X pos (some k :: ks) (v :: vs) ((tk, tv) :: trs) := fun pins s σ H Q I h =>
  pairTrees_cons_walk (thn (hk pins s σ H _ I h) fun u s1 ⟨x, H1, I1, rx, q1⟩ => thn (hv pins s1 σ H1 _ I1 q1) fun w2 s2 ⟨y, H2, I2, ry, q2⟩ =>
    thn (hr pins s2 σ H2 _ I2 q2) fun ws s3 ⟨ps, H3, I3, rel, q3⟩ => ⟨(x, y) :: ps, H3, I3, .cons ⟨rx, ry⟩ rel, q3⟩)

noncomputable def mergeK (kvs more : List (Key × V)) : List (Key × V) := more.foldl (fun acc kv => putK acc kv.1 kv.2) kvs
theorem KV.merge : ∀ {more : List (Key × V)} {rs : List (Key × Value)} {kvs : List (Key × V)} {vs : List (Key × Value)}, KV more rs → KV kvs vs → KV (mergeK kvs more) (merged vs rs) := by
  intro more rs kvs vs r
  unfold KV at r
  induction r generalizing kvs vs with
  | nil => intro q; exact q
  | @cons p q ps qs h t ih =>
    intro r0
    have e : KV (putK kvs p.1 p.2) (stored vs q.1 q.2) := by
      have := r0.put p.1 h.2
      rw [← h.1]; exact this
    exact ih e
theorem length_mergeK : ∀ (more kvs : List (Key × V)), (mergeK kvs more).length ≤ kvs.length + more.length
  | [], kvs => by show kvs.length ≤ kvs.length + 0; omega
  | p :: r, kvs => by
    have h1 := length_mergeK r (putK kvs p.1 p.2)
    have h2 := length_putK kvs p.1 p.2
    show (mergeK (putK kvs p.1 p.2) r).length ≤ _
    rw [List.length_cons]; omega
theorem carries_of {P : Program} {w : World} : ∀ {kvs : List (Key × V)} {ws : List (Value × Value)}, VV (kvs.map fun kv => (kV kv.1, kv.2)) ws → ∃ rs, Carries (mixKind P w) ws rs ∧ KV kvs rs
  | [], _, r => by rw [List.map_nil] at r; cases r; exact ⟨[], True.intro, .nil⟩
  | p :: kvs, _, r => by
    rw [List.map_cons] at r
    cases r with
    | @cons a b as bs h t =>
      obtain ⟨rs, c, q⟩ := carries_of (P := P) (w := w) t
      obtain ⟨b1, b2⟩ := b
      exact ⟨(p.1, b2) :: rs, ⟨kV_is h.1, rfl, c⟩, .cons ⟨rfl, h.2⟩ q⟩
noncomputable def tDisp (trs : List (TE × TE)) : TE := fun σ H Q => ∀ p, H p = none → tPairs trs σ (upd H p (.dK [])) fun ps H2 => H2 p = some (.dK []) ∧ ∃ kvs : List (Key × V), ps = kvs.map (fun kv => (kV kv.1, kv.2)) ∧ kvs.length ≤ 15 ∧ Q (.ref p) (upd H2 p (.dK (mergeK [] kvs)))
theorem pe_disp {X : Cx} {pos : Pos} {keys : List (Option Expr)} {values : List Expr} {trs : List (TE × TE)} (h : PPs X pos keys values trs) (hall : keys.all (·.isSome) = true) (hl : keys.length = values.length) (h0 : keys ≠ [])
    (h15 : keys.length ≤ 15) : PE X (.Dict keys values pos) (tDisp trs) := by
  intro pins s σ H Q I q
  have hn := I.hok.fresh (Nat.le_refl s.heap.objs.size)
  have I1 := I.laid (a := s.heap.objs.size) (o := .dK []) (h' := s.heap.push { cls := .type "dict", data := .dict #[] }) (t' := s.toks) (fun _ _ q => Heap.get?_push_of_some _ q) (Nat.le_refl _) (dk_empty s.heap I.big)
  refine wpAny_Dict_walk (knd := mixKind X.prog X.w) hall hl h0 h15 (thn (h pins _ σ _ _ I1 (q _ hn)) fun ws s2 ⟨ps, H2, I2, rel, e, kvs, ep, lk, q2⟩ => ?_)
  subst ep
  obtain ⟨rs, c, rk⟩ := carries_of (P := X.prog) (w := X.w) rel
  obtain ⟨z, hd, vs0, r0, dd⟩ := dk_of I2.hok e
  cases r0
  refine ⟨rs, c, dd, fun h' dd' hs => ⟨.ref s.heap.objs.size, _, ?_, rfl, q2⟩⟩
  have hz : (mergeK [] kvs).length ≤ sizeLine := by
    have h1 := length_mergeK kvs []
    rw [List.length_nil] at h1
    rw [sizeLine_eq]; omega
  have he : ∃ q, h'.get? s.heap.objs.size = some q := let ⟨q, _, _, hq, _⟩ := dd'; ⟨q, hq⟩
  exact d_write I2 (by rw [e]; exact True.intro) hs he (dk_new hz hd (rk.merge .nil) dd')


section
variable {X : Cx} {pins : List (Addr × Obj)} {σ : St} {H : Hp} {s : Shared} {a : Addr} {y d : V} {u r : Value} {o : Option V} {A : Around} {E : Value → Shared → Prop}
end

section
variable {X : Cx} {o e f : Expr} {apos cpos : Pos} {td ty tx : TE}
end

section
variable {X : Cx} {pins : List (Addr × Obj)} {σ : St} {H : Hp} {s : Shared} {a : Addr} {kvs : List (Key × V)} {A : Around} {E : Value → Shared → Prop}
end


section
variable {X : Cx} {pins : List (Addr × Obj)} {σ : St} {H : Hp} {s : Shared} {a : Addr} {y : V} {u : Value} {A : Around} {E : Value → Shared → Prop}
end
end L2

namespace Att
open PySem PySem.W PySem.Calls PyProof.Rows

theorem ints_of_wellAll {P : Params} {h : Heap} : ∀ (ns : List Int) (vs : List Value), WellAll P h vs (ns.map WData.int) → IntsAre vs ns := by
  intro ns
  induction ns with
  | nil =>
    intro vs w
    rw [List.map_nil] at w
    cases w
    exact .nil
  | cons n ns ih =>
    intro vs w
    rw [List.map_cons] at w
    cases w with
    | cons a b =>
      cases a
      exact .cons _ _ (ih _ b)

theorem script_of {l : OpenLaw} {n : Nat} (hn : l.most = some n) {P : Params} {h : Heap} {args : List WData} {vals : List Value}
    (hpre : l.row.toRowW.claim.pre args = true) (hwl : WellAll P h vals args) :
    ∃ a vs ns, vals = [Value.ref a] ∧ args = [WData.list (ns.map WData.int)] ∧ h.get? a = some { cls := .type "list", data := .seq vs.toArray } ∧ IntsAre vs ns ∧ ns.length ≤ n := by
  have hsh : WShape.hasAll [] args [.list .int] = true := (pre_splitW hpre).1
  have hc : l.pre.holds [] { args := args } = true := (pre_splitW hpre).2
  obtain ⟨d, r, rfl, h1, h2⟩ := hasAllW_cons hsh
  obtain rfl := hasAllW_nil h2
  obtain ⟨xs, rfl, h3⟩ := hasW_list h1
  obtain ⟨ns, rfl⟩ := items_int h3
  have hlen : ns.length ≤ n := by
    unfold OpenLaw.pre at hc
    have h4 : (WTm.not (.lt (.lit (.int (n : Int))) (.len (.arg 0)))).holds [] { args := [.list (ns.map .int)] } = true := by
      have h4 := (holds_andW hc).1
      rw [hn] at h4
      exact h4
    have h5 := condW_of h4 (w_not (w_lt w_lit (w_len_list (w_arg rfl))))
    rw [List.length_map] at h5
    refine Nat.le_of_not_lt fun q => ?_
    have q' : (n : Int) < ((ns.length : Nat) : Int) := by omega
    first
      | (rw [decide_eq_true q'] at h5; exact absurd h5 (by decide))
      | (simp at h5; omega)
  cases hwl with
  | cons w1 w2 =>
    cases w2
    cases w1 with
    | list ho hall => exact ⟨_, _, ns, rfl, rfl, ho, ints_of_wellAll ns _ hall, hlen⟩

theorem post_true (l : OpenLaw) (args : List WData) : l.row.toRowW.claim.post args (.bool true) args = true :=
  postW_of (r := l.row.toRowW) (X := (true == true))
    (show WShape.has [] (.bool true) .bool = true by first | rfl | decide | simp [WShape.has, WShape.arms, WShape.armsAll])
    (show (WTm.eq .res (.lit (.bool true))).value [] { args := args, res := some (.bool true), after := args } = some (.bool (true == true)) from w_eq_bool (w_res rfl) w_lit) rfl

theorem attach_call {l : OpenLaw} {n : Nat} {q : Program} {loose : List Str} {XP : (Str → Option Value) → Heap → Prop} {YP : World → Heap → Prop} {d : DefRec}
    (hn : l.most = some n) (hdf : d.params.defaults = [])
    (call : ∀ (w : World) (s₀ s₁ : Shared) (mg mb : Str → Option Value) (fa : Addr) (o : Obj) (pm cd doc : Value) (a : Addr) (vs : List Value) (ns : List Int),
      Ground q loose [] XP w s₀ mg mb s₁.heap → YP w s₁.heap →
      s₁.heap.get? fa = some o → o.data = .func (docDef d.name d.params d.body d.scope pm cd doc) → s₁.heap.CodeRec cd d.name → mg d.name = some (.ref fa) →
      s₁.heap.get? a = some { cls := .type "list", data := .seq vs.toArray } → IntsAre vs ns → ns.length ≤ n → s₁.gens = #[] →
      codeAny (model l.prog w) callerA (.call (.ref fa) ⟨[.ref a], []⟩) (fun r s' => r = .ok (.ret (.bool true)) ∧ OldK s₁.heap s'.heap ∧ s'.os = s₁.os ∧ AllBare s'.gens) s₁) :
    WalkO q loose XP YP l.row.toRowW d [] (fun f vs => PySem.call f vs) := by
  intro w s₀ s₁ mg mb G Y fa o pm cd doc dV kV ho hd hcd hD hmg hg args vals as hpre hlay hrd hwl hlo
  obtain rfl : dV = .none := Dflts.none hD hdf
  obtain rfl : kV = .none := Dflts.noKw hD
  obtain ⟨a, vs, ns, rfl, rfl, hobj, hints, hlen⟩ := script_of hn hpre hwl
  refine enter_call (codeAny_mono (call w s₀ s₁ mg mb fa o pm cd doc a vs ns G Y ho (fd_plain hd) hcd hmg hobj hints hlen hg) fun r s' hq => ?_)
  obtain ⟨rfl, h2, h3, h4⟩ := hq
  exact ⟨.inl ⟨.bool true, .bool true, [], rfl, fun _ => rfl, .bool true, post_true l _, fun _ => ⟨List.Pairwise.nil, fun _ hm => (nomatch hm)⟩⟩, h2, h3, h4⟩

section
variable {prog : Program} {w : World} {A : Around} {E : Value → Shared → Prop} {s : Shared} {K : Frag}

end
end Att

namespace L2
open PySem PySem.Spec PyProof.Rows

theorem vals_ints : ∀ {vs : List Value} {ns : List Int}, IntsAre vs ns → Vals (ns.map V.int) vs
  | _, _, .nil => .nil
  | _, _, .cons n t h => .cons ⟨t, rfl⟩ (vals_ints h)

noncomputable def Only (H : Hp) : Prop := ∀ b, H b = none ∨ ∃ o xs, H b = some (.frz o (.lst xs))

theorem law_call {P : Program} {w : World} {K : PySem.W.Frag} {mg mb : Str → Option Value} {CX : CXT} {k : Nat} {fa a : Addr} {fd : FuncData} {x : Str} {sp : Sp} {s₁ : Shared} {vs : List Value} {ns : List Int}
    (KX : K.In s₁.heap) (hns : s₁.heap.Ns mainGlobals mg) (hb : s₁.heap.Ns builtinsNs mb) (hbb : ∀ x : Str, x ≠ "__name__" → mb x = bootBuiltins x) (hlim : s₁.heap.NoLimit) (hg : s₁.gens = #[])
    (ha : s₁.heap.get? a = some { cls := .type "list", data := .seq vs.toArray }) (hi : IntsAre vs ns) (hl : ns.length ≤ sizeLine) (hr : Room k callerA)
    (F : ∀ base : Heap, K.In base → base.Ns mainGlobals mg → FnOk P w K mg base CX k fa fd [x] sp) (hbind : ∀ (s : Shared) (u : Value), BindsTo s fd ⟨[u], []⟩ [(x, u)])
    (hsp : ∀ H : Hp, Only H → SqL K H a (ns.map V.int) → sp [.ref a] H (fun v _ => v = .bl true) fun _ _ _ => False)
    (hCX : ∀ H e s', CX [] H s₁ (fun _ _ _ => False) e s' → False) :
    codeAny (model P w) callerA (.call (.ref fa) ⟨[.ref a], []⟩) (fun r s' => r = .ok (.ret (.bool true)) ∧ OldK s₁.heap s'.heap ∧ s'.os = s₁.os ∧ AllBare s'.gens) s₁ := by
  have rv := vals_ints hi
  have lenV := hi.length
  -- from an abstract heap in which nothing but the script may be tracked
  have core : ∀ H : Hp, Only H → SqL K H a (ns.map V.int) → HOk P w H s₁.heap → (∀ b, H b ≠ none → b = a) → (H a ≠ none → K.lookup a = none) →
      codeAny (model P w) callerA (.call (.ref fa) ⟨[.ref a], []⟩) (fun r s' => r = .ok (.ret (.bool true)) ∧ OldK s₁.heap s'.heap ∧ s'.os = s₁.os ∧ AllBare s'.gens) s₁ := by
    intro H hO hS hok hA hK
    have base_of : ∀ {b : Addr} {o : Obj}, s₁.heap.get? b = some o → H b = none → (hidT s₁.heap H).get? b = some o := fun e n => hidT_get e n
    have noA : ∀ {b : Addr} {o : Obj} {es : Array DictEntry} {ep : Nat}, s₁.heap.get? b = some o → o.data = .dict es ep → H b = none := fun {b o es ep} e d => by
      cases q : H b with
      | none => rfl
      | some u =>
        have e' : b = a := hA b (by rw [q]; simp)
        subst e'
        rw [ha] at e; cases e
        have d' : Data.seq vs.toArray _ = Data.dict es ep := d
        cases d'
    have nsK : ∀ {b : Addr} {m : Str → Option Value}, s₁.heap.Ns b m → (hidT s₁.heap H).Ns b m := fun {b m} ⟨o, es, ep, e, d, r⟩ => ⟨o, es, ep, base_of e (noA e d), d, r⟩
    have hKb : K.In (hidT s₁.heap H) := fun b o e => base_of (KX b o e) (by
      cases q : H b with
      | none => rfl
      | some u =>
        have e' : b = a := hA b (by rw [q]; simp)
        subst e'
        rw [hK (by rw [q]; simp)] at e; cases e)
    have hM : Mod K mg (hidT s₁.heap H) := ⟨hKb, nsK hns, ⟨mb, nsK hb, hbb⟩, let ⟨mc, h1, h2⟩ := hlim; ⟨mc, nsK h1, h2⟩⟩
    have e0 : Env0 P w K mg (hidT s₁.heap H) callerA [] s₁ H := ⟨rfl, hM, fun b o e => of_hidT e, Nat.le_of_eq (hidT_size _ _), trivial, fun b hb => absurd (show b ∈ ([] : List Addr) from hb) (by simp), hok, .of_eq hg⟩
    refine codeAny_mono ((F _ hKb (nsK hns)).run callerA [] s₁ H ⟨[.ref a], []⟩ [.ref a] [.ref a] _ _ hr e0 (hbind s₁ (.ref a)) (.cons rfl .nil) (hsp H hO hS)) fun r s' h => ?_
    cases r with
    | error e => exact (hCX H e s' h).elim
    | ok fl =>
      cases fl with
      | next => exact False.elim h
      | brk => exact False.elim h
      | cont => exact False.elim h
      | ret u =>
        obtain ⟨v, H', os, bare, un, hok', r', q⟩ := h
        have q' : v = .bl true := q
        subst q'
        obtain rfl : u = Value.bool true := r'
        refine ⟨rfl, OldK.of_keep fun b o e => ?_, os, bare⟩
        cases q : H b with
        | none => exact un.keep b o e q (by intro z; exact absurd (show b ∈ ([] : List Addr) from z) (by simp)) (by simp)
        | some u =>
          rcases hO b with z | ⟨ob, xs, z⟩
          · rw [q] at z; cases z
          · have z2 := un.frzs b ob _ z
            obtain ⟨e1, _⟩ := hok b _ z
            obtain ⟨e2, _⟩ := hok' b _ z2
            rw [e] at e1; cases e1
            exact e2
  cases hk : K.lookup a with
  | some o =>
    -- the script is one of the module's own objects
    have e := KX a o hk
    rw [ha] at e
    cases e
    refine core (fun _ => none) (fun _ => .inl rfl) (.inr ⟨_, vs.toArray, _, hk, rfl, rfl, rfl, by rw [List.size_toArray, lenV]; exact hl, by simpa using rv⟩) (fun b u z => by have z' : (none : Option HO) = some u := z; cases z') (fun b z => absurd rfl z) fun z => absurd rfl z
  | none =>
    refine core (fun b => if b = a then some (.frz { cls := .type "list", data := .seq vs.toArray } (.lst (ns.map V.int))) else none) (fun b => ?_) (.inl (.inr ⟨{ cls := .type "list", data := .seq vs.toArray }, if_pos rfl⟩)) (fun b u z => ?_) (fun b z => ?_) fun _ => hk
    · by_cases hb : b = a
      · exact .inr ⟨_, _, if_pos hb⟩
      · exact .inl (if_neg hb)
    · by_cases hb : b = a
      · have z' := (if_pos hb).symm.trans z
        cases z'
        subst hb
        exact ⟨ha, by rw [List.length_map]; exact hl, vs, _, rv, ha⟩
      · have z' := (if_neg hb).symm.trans z
        cases z'
    · by_cases hb : b = a
      · exact hb
      · exact absurd (if_neg hb) z
end L2

namespace L2
open PySem PySem.Spec PyProof.Rows

theorem walk_of {l : PySem.W.OpenLaw} {n k : Nat} {q : Program} {loose : List Str} {XP : (Str → Option Value) → Heap → Prop} {YP : World → Heap → Prop} {d : DefRec} {K : Params → PySem.W.Frag} {CX : World → CXT} {sp : World → Sp} {x : Str}
    (hn : l.most = some n) (hn2 : n ≤ sizeLine) (hdf : d.params.defaults = []) (hr : Room k callerA)
    (hY : ∀ (w : World) (h : Heap), YP w h → (K w.params).In h)
    (F : ∀ (w : World) (mg : Str → Option Value) (fa : Addr) (h : Heap), (K w.params).In h → h.Ns mainGlobals mg → mg d.name = some (.ref fa) →
      ∃ fd : FuncData, (∀ (s : Shared) (u : Value), BindsTo s fd ⟨[u], []⟩ [(x, u)]) ∧
        ∀ base : Heap, (K w.params).In base → base.Ns mainGlobals mg → FnOk l.prog w (K w.params) mg base (CX w) k fa fd [x] (sp w))
    (hsp : ∀ (w : World) (H : Hp) (a : Addr) (ns : List Int), ns.length ≤ n → Only H → SqL (K w.params) H a (ns.map V.int) → sp w [.ref a] H (fun v _ => v = .bl true) fun _ _ _ => False)
    (hCX : ∀ (w : World) (H : Hp) (s : Shared) (e : Value) (s' : Shared), CX w [] H s (fun _ _ _ => False) e s' → False) :
    PySem.W.WalkO q loose XP YP l.row.toRowW d [] (fun f vs => PySem.call f vs) := by
  refine Att.attach_call hn hdf fun w s₀ s₁ mg mb fa o pm cd doc a vs ns G Y ho hd hcd hmg hobj hints hlen hg => ?_
  have KX := hY w _ Y
  obtain ⟨fd, hb, hF⟩ := F w mg fa _ KX G.T.g hmg
  exact law_call KX G.T.g G.T.b G.T.builtins G.T.nolimit hg hobj hints (Nat.le_trans hlen hn2) hr hF hb (fun H hO hS => hsp w H a ns hlen hO hS) fun H e s' => hCX w H s₁ e s'
end L2


namespace L2
open PySem PySem.Spec PyProof.Rows

noncomputable def defArgs (s : Stmt) : Arguments := match s with
  | .FunctionDef _ a _ _ _ _ _ _ _ _ => a
  | _ => { posonlyargs := [], args := [], vararg := none, kwonlyargs := [], kw_defaults := [], kwarg := none, defaults := [] }
noncomputable def defBody (s : Stmt) : List Stmt := match s with
  | .FunctionDef _ _ b _ _ _ _ _ _ _ => b
  | _ => []
noncomputable def defScope (s : Stmt) : Scope := match s with
  | .FunctionDef _ _ _ _ _ _ sc _ _ _ => sc
  | _ => { kind := .function, names := [], isGenerator := false, isCoroutine := false }

noncomputable abbrev CX0 : CXT := fun _ _ _ _ _ _ => False
noncomputable abbrev E0 : XK := fun _ _ _ => False
theorem pass0 {X : Cx} : Passes CX0 X E0 := fun _ _ _ _ _ _ _ h => h.elim

structure Fun (K : PySem.W.Frag) (x qual : Str) (st : Stmt) (f : Addr) (fd : FuncData) : Prop where
  ex : ∃ (oc : Value) (od : Option Addr) (kV doc pm : Value) (an : Option Addr) (cdv ct : Value) (osl : Array (Option Value)),
    fd = PySem.W.fnOf x qual (defArgs st) (defBody st) (defScope st) .none kV doc pm an cdv ct ∧ K.lookup f = some ⟨oc, od, .func fd, osl⟩ ∧ PySem.W.codeIn K cdv qual = true
  kp : PySem.W.keepIn K (.ref f) = true
section
variable {P : Program} {w : World} {K : PySem.W.Frag} {mg : Str → Option Value} {base : Heap}
theorem Fun.ok {x qual : Str} {st : Stmt} {f : Addr} {fd : FuncData} {N ps : List Str} {k : Nat} {sp : Sp} (F : Fun K x qual st f fd) (S : FnScope N ps (defScope st)) (len : ∀ vs H Q E, sp vs H Q E → vs.length = ps.length)
    (hbody : ∀ (cdv : Value) (A : Around) (outer : List Env) (s : Shared) (H : Hp) (vs : List V) (Q : VK) (E : XK), Room k (A.deeper (envOfC qual (defScope st) s.heap.objs.size f cdv)) → sp vs H Q E →
      ∃ t, PSs (cxOf CX0 P w K mg base N qual (defScope st) f cdv A outer s H E).nox (defBody st) t ∧ t { nx := fun _ H' => Q .non H', rt := Q } (start N vs) H) : FnOk P w K mg base CX0 (k + 1) f fd ps sp := by
  obtain ⟨oc, od, kV, doc, pm, an, cdv, ct, osl, rfl, lk, hcd⟩ := F.ex
  refine fn_of lk hcd S len fun A outer s H vs Q E hr hsp => ?_
  obtain ⟨t, h, q⟩ := hbody cdv A outer s H vs Q E hr hsp
  exact ⟨t, h.nox, q⟩
theorem Fun.binds {x qual : Str} {st : Stmt} {f : Addr} {fd : FuncData} {ps : List Str} (F : Fun K x qual st f fd)
    (h : ∀ (kV doc pm : Value) (an : Option Addr) (cdv ct : Value) (us : List Value), us.length = ps.length → bindArgs (PySem.W.fnOf x qual (defArgs st) (defBody st) (defScope st) .none kV doc pm an cdv ct) ⟨us, []⟩ = pure (ps.zip us)) : Binds K fd ps [] := by
  obtain ⟨oc, od, kV, doc, pm, an, cdv, ct, osl, rfl, lk, hcd⟩ := F.ex
  exact .all (h kV doc pm an cdv ct)
theorem fun_mk {x qual : Str} {st : Stmt} {f : Addr} {oc : Value} {od an : Option Addr} {osl : Array (Option Value)} {kV doc pm cdv ct : Value} (l : K.lookup f = some ⟨oc, od, .func (PySem.W.fnOf x qual (defArgs st) (defBody st) (defScope st) .none kV doc pm an cdv ct), osl⟩)
    (c : PySem.W.codeIn K cdv qual = true) (k : PySem.W.keepIn K (.ref f) = true) : Fun K x qual st f (PySem.W.fnOf x qual (defArgs st) (defBody st) (defScope st) .none kV doc pm an cdv ct) := ⟨⟨oc, od, kV, doc, pm, an, cdv, ct, osl, rfl, l, c⟩, k⟩
end
theorem hu_of {A : Around} {k : Nat} (hr : Room k A) : A.units + 1 < cLine := Nat.lt_of_le_of_lt (Nat.add_le_add_left (by decide : 1 ≤ 64) _) hr.units
section
variable {X : Cx}
end

theorem iteF {A B : Prop} (h : B) : if false = true then A else B := by
  rw [if_neg Bool.false_ne_true]
  exact h
theorem iteT {A B : Prop} (h : A) : if true = true then A else B := by
  rw [if_pos rfl]
  exact h
theorem ite2 {c A B : Prop} [Decidable c] (h1 : c → A) (h2 : ¬ c → B) : if c then A else B := by
  by_cases h : c
  · rw [if_pos h]
    exact h1 h
  · rw [if_neg h]
    exact h2 h
theorem iteNS {c A B : Prop} [Decidable c] (hc : c) (h : B) : if (!decide c) = true then A else B := by
  rw [decide_eq_true hc]
  exact iteF h

noncomputable def Same (H H' : Hp) : Prop := ∀ b o, H b = some o → H' b = some o
theorem Same.refl (H : Hp) : Same H H := fun _ _ h => h
theorem Same.trans {H H1 H2 : Hp} (a : Same H H1) (b : Same H1 H2) : Same H H2 := fun c o h => b c o (a c o h)
theorem Same.free {H H' : Hp} (e : Same H H') {l : Addr} (h : H' l = Option.none) : H l = Option.none := by
  cases q : H l with
  | none => rfl
  | some o =>
    rw [e l o q] at h
    cases h
theorem Same.seq {K : PySem.W.Frag} {H H' : Hp} {a : Addr} {xs : List V} (e : Same H H') (h : SqL K H a xs) : SqL K H' a xs := by
  rcases h with (h | ⟨o, h⟩) | h
  · exact .inl (.inl (e _ _ h))
  · exact .inl (.inr ⟨o, e _ _ h⟩)
  · exact .inr h

end L2

namespace L2
open PySem PySem.Spec PyProof.Rows
section
variable {X : Cx}
end
section
variable {κ : Type} [DecidableEq κ]
end
end L2
set_option maxHeartbeats 4000000
namespace L2
open PySem PySem.Spec PyProof.Rows

theorem comp_loop_any {prog : Program} {w : World} {A : Around} {R : Result → Shared → Prop} {s : Shared}
    {elt tg iter : Expr} {ifs : List Expr} {scope : Scope} {pos : Pos} {it acc : Value} {env : Env}
    (I : Nat → Shared → Prop)
    (turn : ∀ n s, I n s → wpAny (model prog w) A (pyNext it)
      (fun r s1 => match r with
        | none => R (.ok .next) s1
        | some v => wpAny (model prog w) A (letOwnedTupleGo tg it v) (fun _ s2 =>
            wpAny (model prog w) A (assign tg env v) (fun _ s3 =>
            wpAny (model prog w) A
              (forIn ifs true fun c r => if r = true then do
                  let ok ← isTrue c env (eval c env)
                  pure (ForInStep.yield ok)
                else pure (ForInStep.yield r))
              (fun ok s4 => if ok = true then
                  wpAny (model prog w) A (eval elt env) (fun x s5 =>
                    wpAny (model prog w) A (call (.builtin "list.append") [acc, x])
                      (fun _ s6 => ∃ m, m < n ∧ I m s6) (fun _ _ => False) s5) (fun _ _ => False) s4
                else ∃ m, m < n ∧ I m s4) (fun _ _ => False) s3) (fun _ _ => False) s2)
            (fun _ _ => False) s1)
      (fun _ _ => False) s)
    (n : Nat) (h : I n s) :
    codeAny (model prog w) A (.compLoop (.ListComp elt [⟨tg, iter, ifs, 0⟩] scope pos) 0 it acc env) R s := by
  refine codeAny_loop rfl I (fun n s hI => ?_) n h
  show wpAny _ A ((compTurn _ 0 it acc env).onRaise (fun x => do noteFrame x env; theTreesLotGoes x)) _ _ s
  refine wpAny_noted (E := fun e s' => R (.error e) s') ?_
  rw [compTurn_list]
  refine wpAny_bind (wpAny_standAt (wpAny_bind (wpAny_mono (turn n s hI) (fun r s1 h1 => ?_) fun _ _ z => z.elim)))
  cases r with
  | none => exact wpAny_pure h1
  | some v =>
    refine wpAny_bind (wpAny_mono h1 (fun _ s2 h2 => wpAny_bind (wpAny_mono h2 (fun _ s3 h3 =>
      wpAny_bind (wpAny_mono h3 (fun ok s4 h4 => ?_) fun _ _ z => z.elim)) fun _ _ z => z.elim)) fun _ _ z => z.elim)
    cases ok with
    | false => exact wpAny_pure ⟨rfl, h4⟩
    | true =>
      exact wpAny_bind (wpAny_bind (wpAny_mono h4 (fun x s5 h5 => wpAny_bind (wpAny_mono h5
        (fun _ s6 h6 => wpAny_pure (wpAny_pure ⟨rfl, h6⟩)) fun _ _ z => z.elim)) fun _ _ z => z.elim))

theorem closure_ok {scope : Scope} {env : Env} (h : ∀ y ∈ scope.names, y.2 = .free → ∃ c, env.cells.lookup y.1 = some c) :
    ∃ cl, closureFor scope env = pure cl ∧ (∀ x c, cl.lookup x = some c → env.cells.lookup x = some c) ∧
      ∀ y ∈ scope.names, y.2 = .free → ∃ c, cl.lookup y.1 = some c := by
  have all : ∀ (ns : List (Str × NameKind)), (∀ y ∈ ns, y.2 = .free → ∃ c, env.cells.lookup y.1 = some c) → ∀ cl0 : List (Str × Addr),
      (∀ x c, cl0.lookup x = some c → env.cells.lookup x = some c) →
      ∃ cl, (forIn ns cl0 fun (x : Str × NameKind) (r : List (Str × Addr)) =>
          (if (x.2 == NameKind.free) = true then do
            let a ← cellOf env x.1
            pure (ForInStep.yield ((x.1, a) :: r))
          else pure (ForInStep.yield r) : Sem _)) = pure cl ∧ (∀ x c, cl.lookup x = some c → env.cells.lookup x = some c) ∧
        (∀ x c, cl0.lookup x = some c → ∃ c, cl.lookup x = some c) ∧ ∀ y ∈ ns, y.2 = .free → ∃ c, cl.lookup y.1 = some c := by
    intro ns
    induction ns with
    | nil => exact fun _ cl0 h0 => ⟨cl0, rfl, h0, fun x c e => ⟨c, e⟩, fun y hy => nomatch hy⟩
    | cons y r ih =>
      intro hy cl0 h0
      by_cases hk : y.2 = .free
      · obtain ⟨c, hc⟩ := hy y (.head _) hk
        have h1 : ∀ x d, ((y.1, c) :: cl0).lookup x = some d → env.cells.lookup x = some d := fun x d e => by
          rw [List.lookup_cons] at e
          cases q : x == y.1 with
          | true =>
            rw [q] at e
            have : x = y.1 := eq_of_beq q
            subst this
            exact (Option.some.inj e) ▸ hc
          | false =>
            rw [q] at e
            exact h0 x d e
        obtain ⟨cl, e, a, b, d⟩ := ih (fun z hz => hy z (.tail _ hz)) ((y.1, c) :: cl0) h1
        have keep : ∀ x d, cl0.lookup x = some d → ∃ d, cl.lookup x = some d := fun x d e => by
          cases q : x == y.1 with
          | true => exact b x c (by rw [List.lookup_cons, q])
          | false => exact b x d (by rw [List.lookup_cons, q]; exact e)
        refine ⟨cl, ?_, a, keep, fun z hz hf => ?_⟩
        · rw [List.forIn_cons]
          have : (y.2 == NameKind.free) = true := by rw [hk]; rfl
          rw [if_pos this]
          have ec : cellOf env y.1 = pure c := by unfold cellOf; rw [hc]
          rw [ec]
          exact e
        · rcases List.mem_cons.mp hz with rfl | hz
          · exact b z.1 c (by rw [List.lookup_cons, beq_self_eq_true])
          · exact d z hz hf
      · obtain ⟨cl, e, a, b, d⟩ := ih (fun z hz => hy z (.tail _ hz)) cl0 h0
        refine ⟨cl, ?_, a, b, fun z hz hf => ?_⟩
        · rw [List.forIn_cons]
          have : ¬ (y.2 == NameKind.free) = true := by simpa using hk
          rw [if_neg this]
          exact e
        · rcases List.mem_cons.mp hz with rfl | hz
          · exact absurd hf hk
          · exact d z hz hf
  obtain ⟨cl, e, a, _, d⟩ := all scope.names h [] (fun x c e => by simp at e)
  exact ⟨cl, congrArg (fun (m : Sem (List (Str × Addr))) => m >>= fun cs => pure cs) e, a, d⟩

theorem relabel_kind {scope : Scope} {env : Env} {x : Str} (hc : ∀ y ∈ scope.names, y.2 ≠ .cell)
    (h : (relabel scope env).names.lookup x = some .cell ∨ (relabel scope env).names.lookup x = some .free) : ∃ y ∈ scope.names, y.1 = x ∧ y.2 = .free := by
  have all : ∀ ns : List (Str × NameKind), (∀ y ∈ ns, y.2 ≠ .cell) → ∀ k, (k = NameKind.cell ∨ k = NameKind.free) →
      (ns.map fun (n, k) => if (k == .free && env.scope.kind == .function && env.kindOf n == some .cell) then (n, .cell) else (n, k)).lookup x = some k → ∃ y ∈ ns, y.1 = x ∧ y.2 = .free := by
    intro ns
    induction ns with
    | nil => intro _ k _ e; simp at e
    | cons y r ih =>
      intro hn k hk e
      obtain ⟨n, j⟩ := y
      rw [List.map_cons, List.lookup_cons] at e
      have step : (∃ z ∈ r, z.1 = x ∧ z.2 = .free) → ∃ z ∈ (n, j) :: r, z.1 = x ∧ z.2 = .free := fun ⟨z, hz, q⟩ => ⟨z, .tail _ hz, q⟩
      by_cases hcc : (j == NameKind.free && env.scope.kind == .function && env.kindOf n == some .cell) = true
      · have hj : j = .free := by
          simp only [Bool.and_eq_true, beq_iff_eq] at hcc
          exact hcc.1.1
        simp only [hcc, if_true] at e
        cases q : x == n with
        | true => exact ⟨(n, j), .head _, (eq_of_beq q).symm, hj⟩
        | false =>
          rw [q] at e
          exact step (ih (fun z hz => hn z (.tail _ hz)) k hk e)
      · simp only [hcc, if_false, Bool.false_eq_true] at e
        cases q : x == n with
        | true =>
          rw [q] at e
          have ej : j = k := Option.some.inj e
          refine ⟨(n, j), .head _, (eq_of_beq q).symm, ?_⟩
          rcases hk with hk | hk
          · exact absurd (ej.trans hk) (hn (n, j) (.head _))
          · exact ej.trans hk
        | false =>
          rw [q] at e
          exact step (ih (fun z hz => hn z (.tail _ hz)) k hk e)
  rcases h with h | h
  · exact all scope.names hc _ (.inl rfl) h
  · exact all scope.names hc _ (.inr rfl) h

noncomputable def cxComp (X : Cx) (N : List Str) (scope : Scope) (cl : List (Str × Addr)) (fp : List Addr) (s : Shared) (H : Hp) : Cx where
  prog := X.prog
  w := X.w
  K := X.K
  mg := X.mg
  base := X.base
  A := X.A
  N := N
  s₀ := s
  H₀ := H
  env := compEnvC scope cl s.heap.objs.size X.env
  outer := X.stack
  stack := X.stack
  ex := fp
  fn := fun _ => false
  calm := X.calm
  pn := []
  xe := fun _ _ => False

noncomputable def blockSt (n : Nat) (cap : List Nat) (σ : St) : St := List.replicate n none ++ cap.map fun j => (σ[j]?).join

noncomputable def PTs (X : Cx) (ifs : List Expr) (t : TT) : Prop :=
  ∀ (pins : List (Addr × Obj)) (s : Shared) (σ : St) (H : Hp) (Q : Bool → Hp → Prop), Inv X pins σ H s → t σ H Q →
    wpAny (model X.prog X.w) X.A (forIn ifs true fun c r => if r = true then do
        let ok ← isTrue c X.env (eval c X.env)
        pure (ForInStep.yield ok)
      else pure (ForInStep.yield r)) (TP X pins σ Q) X.xe s
noncomputable def tYes : TT := fun _ H Q => Q true H
theorem pts_nil {X : Cx} : PTs X [] tYes := fun _ _ _ H _ I h => wpAny_tests_nil ⟨H, I, h⟩
noncomputable def compRun (J : It) (D : Addr) (n : Nat) (cap : List Nat) (σ : St) (g : TG) (tt : TT) (te : TE) (Q : VK) (H1 : Hp) : Prop :=
  ∃ W : Nat → Nat → Hp → Prop, (∃ m, W 0 m (upd H1 D (.lst []))) ∧ ∀ i m H, W i m H →
    (J.stop i H ∧ Q (.ref D) H) ∨ (J.go i H ∧ ∃ N : Hp → Prop, (∀ H', N H' → ∃ m', m' < m ∧ W (i + 1) m' H') ∧ ∀ x H', J.yld i H x H' → g x (blockSt n cap σ) H' fun σ2 H2 =>
      tt σ2 H2 fun b H3 => if b = true then te σ2 H3 fun y H4 => ∃ xs, H4 D = some (.lst xs) ∧ xs.length < sizeLine ∧ N (upd H4 D (.lst (xs ++ [y])))
        else N H3)
noncomputable def tComp (n : Nat) (cap : List Nat) (wi : TI) (g : TG) (tt : TT) (te : TE) : TE := fun σ H Q => wi σ H fun J H1 => ∀ D, H1 D = none → compRun J D n cap σ g tt te Q H1

section
variable {X : Cx} {elt tg iter : Expr} {ifs : List Expr} {scope : Scope} {pos : Pos} {N : List Str} {n : Nat} {cap : List Nat} {wi : TI} {g : TG} {tt : TT} {te : TE}

structure Blk (X : Cx) (scope : Scope) (N : List Str) (n : Nat) (cap : List Nat) : Prop where
  kind : scope.kind = .function
  cell : ∀ y ∈ scope.names, y.2 ≠ .cell
  names : ∀ y ∈ scope.names, y.2 = .local → scope.names.lookup y.1 = some .local
  free : ∀ y ∈ scope.names, y.2 = .free → X.env.kindOf y.1 = some .cell ∨ X.env.kindOf y.1 = some .free
  len : N.length = n + cap.length
  caps : ∀ (i j : Nat) (x : Str), cap[i]? = some j → N[n + i]? = some x → X.N[j]? = some x ∧ (scope.names.lookup x = some .free)
end

noncomputable def blkOk (names : List (Str × NameKind)) (N : List Str) (n : Nat) (cap : List Nat) (No : List Str) (so : List (Str × NameKind)) : Bool :=
  names.all (fun y => y.2 != .cell) && names.all (fun y => y.2 != .local || names.lookup y.1 == some .local) &&
  names.all (fun y => y.2 != .free || (so.lookup y.1 == some .cell || so.lookup y.1 == some .free)) && (N.length == n + cap.length) &&
  (List.range cap.length).all fun i => match cap[i]?, N[n + i]? with
    | some j, some x => No[j]? == some x && names.lookup x == some .free
    | _, _ => true
theorem blk_of {X : Cx} {scope : Scope} {N : List Str} {n : Nat} {cap : List Nat} (hk : scope.kind = .function) (h : blkOk scope.names N n cap X.N X.env.scope.names = true) : Blk X scope N n cap := by
  unfold blkOk at h
  simp only [Bool.and_eq_true, List.all_eq_true] at h
  obtain ⟨⟨⟨⟨h1, h2⟩, h3⟩, h4⟩, h5⟩ := h
  refine ⟨hk, fun y hy z => ?_, fun y hy z => ?_, fun y hy z => ?_, by simpa using h4, fun i j x e1 e2 => ?_⟩
  · have := h1 y hy
    rw [z] at this
    cases this
  · have := h2 y hy
    rw [z] at this
    simpa using this
  · have := h3 y hy
    rw [z] at this
    show X.env.scope.names.lookup y.1 = some .cell ∨ X.env.scope.names.lookup y.1 = some .free
    simpa using this
  · have hi : i < cap.length := (List.getElem?_eq_some_iff.mp e1).1
    have := h5 i (List.mem_range.mpr hi)
    rw [e1, e2] at this
    simpa using this

theorem blk_get {n : Nat} {cap : List Nat} {σ : St} {i : Nat} {v : V} (h : (blockSt n cap σ)[i]? = some (some v)) :
    ∃ k j, i = n + k ∧ cap[k]? = some j ∧ σ[j]? = some (some v) := by
  unfold blockSt at h
  by_cases hi : i < n
  · rw [List.getElem?_append_left (by simpa using hi), List.getElem?_replicate, if_pos hi] at h
    cases h
  · rw [List.getElem?_append_right (by simpa using Nat.not_lt.mp hi)] at h
    simp only [List.length_replicate, List.getElem?_map] at h
    cases e : cap[i - n]? with
    | none => rw [e] at h; cases h
    | some j =>
      rw [e] at h
      have h' : (σ[j]?).join = some v := Option.some.inj h
      refine ⟨i - n, j, by omega, e, ?_⟩
      cases q : σ[j]? with
      | none => rw [q] at h'; cases h'
      | some o =>
        rw [q] at h'
        exact congrArg some h'

theorem relabel_free {scope : Scope} {env : Env} {x : Str} (h : scope.names.lookup x = some .free) :
    (relabel scope env).names.lookup x = some .cell ∨ (relabel scope env).names.lookup x = some .free := by
  have all : ∀ ns : List (Str × NameKind), ns.lookup x = some .free →
      (ns.map fun (n, k) => if (k == .free && env.scope.kind == .function && env.kindOf n == some .cell) then (n, NameKind.cell) else (n, k)).lookup x = some .cell ∨
      (ns.map fun (n, k) => if (k == .free && env.scope.kind == .function && env.kindOf n == some .cell) then (n, NameKind.cell) else (n, k)).lookup x = some .free := by
    intro ns
    induction ns with
    | nil => intro e; simp at e
    | cons y r ih =>
      intro e
      obtain ⟨m, j⟩ := y
      rw [List.lookup_cons] at e
      rw [List.map_cons, List.lookup_cons]
      cases q : x == m with
      | true =>
        rw [q] at e
        have ej : j = .free := Option.some.inj e
        subst ej
        by_cases hcc : (NameKind.free == NameKind.free && env.scope.kind == .function && env.kindOf m == some .cell) = true
        · simp only [hcc, if_true, q, true_or]
        · simp only [hcc, if_false, Bool.false_eq_true, q, or_true]
      | false =>
        rw [q] at e
        have h1 := ih e
        by_cases hcc : (j == NameKind.free && env.scope.kind == .function && env.kindOf m == some .cell) = true
        · simp only [hcc, if_true, q]
          exact h1
        · simp only [hcc, if_false, Bool.false_eq_true, q]
          exact h1
  exact all scope.names h

theorem comp_ok {X : Cx} {pins : List (Addr × Obj)} {σ : St} {H : Hp} {s : Shared} {N : List Str} {scope : Scope} {n : Nat} {cap : List Nat} {cl : List (Str × Addr)} {fp : List Addr}
    (I : Inv X pins σ H s) (B : Blk X scope N n cap) (c1 : ∀ x c, cl.lookup x = some c → X.env.cells.lookup x = some c)
    (c2 : ∀ y ∈ scope.names, y.2 = .free → ∃ c, cl.lookup y.1 = some c) (hf : ∀ b ∈ fp, FpOk X pins H b) (hfl : ∀ b ∈ fp, b < s.heap.objs.size) : (cxComp X N scope cl fp s H).Ok where
  mod := I.ok.mod
  kind := by show (relabel scope X.env).kind = _; exact B.kind
  glob := I.ok.glob
  blt := I.ok.blt
  above := Nat.le_refl _
  inj := fun x y c e1 e2 => I.ok.inj x y c (c1 x c e1) (c1 y c e2)
  has := fun x h => by
    obtain ⟨y, hy, e, k⟩ := relabel_kind B.cell h
    obtain ⟨c, hc⟩ := c2 y hy k
    exact ⟨c, e ▸ hc⟩
  cab := fun x c h => nomatch h
  hd := I.ok.hd
  frames := I.ok.frames
  stk := .inl rfl
  exf := fun b hb => ⟨Nat.ne_of_lt (hfl b hb), fun x c e => (hf b hb).2.2.2.2.1 x c (c1 x c e)⟩
  bs := I.bs
  bsz := Nat.le_trans I.ok.bsz I.sz
  noex := fun b o e hb => by
    rcases (hf b hb).2.2.2.1 with z | z
    · exact I.ok.noex b o e z
    · exact absurd (Nat.lt_of_lt_of_le (Heap.lt_size e) (Nat.le_trans I.ok.bsz z)) (Nat.lt_irrefl _)
  exfs := fun b hb z => by
    rcases List.mem_cons.mp (I.stkSub b z) with e | e
    · exact (hf b hb).2.1 e
    · exact (hf b hb).2.2.1 e
  funs := I.stack
  frf := I.stkFree

theorem comp_start {X : Cx} {pins : List (Addr × Obj)} {σ : St} {H : Hp} {s : Shared} {h1 : Heap} {t1 : Nat} {N : List Str} {scope : Scope} {n : Nat} {cap : List Nat} {cl : List (Str × Addr)} {fp : List Addr} {m : Str → Option Value}
    (I : Inv X pins σ H s) (B : Blk X scope N n cap) (c1 : ∀ x c, cl.lookup x = some c → X.env.cells.lookup x = some c)
    (c2 : ∀ y ∈ scope.names, y.2 = .free → ∃ c, cl.lookup y.1 = some c) (hf : ∀ b ∈ fp, FpOk X pins H b) (hfl : ∀ b ∈ fp, b < s.heap.objs.size)
    (hn : h1.Ns s.heap.objs.size m) (k : ∀ b o, s.heap.get? b = some o → h1.get? b = some o) :
    Inv (cxComp X N scope cl fp s H) [] (blockSt n cap σ) H { s with heap := h1, toks := t1 } where
  ok := comp_ok I B c1 c2 hf hfl
  os := rfl
  bare := I.bare
  base := Un.kept k
  loc := by
    refine ⟨m, hn, fun i x v e1 e2 e3 => ?_⟩
    obtain ⟨k', j, rfl, ec, es⟩ := blk_get e2
    obtain ⟨ex, ef⟩ := B.caps k' j x ec e1
    have hy : ∃ y ∈ scope.names, y.1 = x ∧ y.2 = .free := relabel_kind (env := X.env) B.cell (relabel_free ef)
    obtain ⟨y, hy, ey, ky⟩ := hy
    have kx : X.env.kindOf x = some .cell ∨ X.env.kindOf x = some .free := ey ▸ B.free y hy ky
    obtain ⟨m0, _, hl⟩ := I.loc
    have vis : Vis X.env.scope x := .inr kx
    obtain ⟨u, r, l⟩ := hl j x v ex es vis
    refine ⟨u, r, .inr ⟨relabel_free ef, ?_⟩⟩
    rcases l with ⟨kl, _⟩ | ⟨_, c, hc, ho⟩
    · rcases kx with q | q <;> (rw [kl] at q; cases q)
    · obtain ⟨c', hc'⟩ := c2 y hy ky
      rw [ey] at hc'
      have := c1 x c' hc'
      rw [hc] at this
      cases this
      obtain ⟨o, eo, d⟩ := ho
      exact ⟨c, hc', o, k c o eo, d⟩
  cell := fun x c e => by
    obtain ⟨v, o, eo, d⟩ := I.cell x c (c1 x c e)
    exact ⟨v, o, k c o eo, d⟩
  free := I.hok.fresh (Nat.le_refl _)
  freeC := fun x c e => I.freeC x c (c1 x c e)
  pin := fun p hp => nomatch hp
  hok := I.hok.kept k
  len := by show (blockSt n cap σ).length = N.length; rw [B.len]; unfold blockSt; simp

theorem comp_end {X : Cx} {pins : List (Addr × Obj)} {σ σ' : St} {H H' : Hp} {s s' : Shared} {N : List Str} {scope : Scope} {cl : List (Str × Addr)} {fp : List Addr} {pl : List (Addr × Obj)}
    (I : Inv X pins σ H s) (I' : Inv (cxComp X N scope cl fp s H) pl σ' H' s') (hf : ∀ b ∈ fp, FpOk X pins H b) :
    Inv X pins σ H' s' ∧ FpOk X pins H' s.heap.objs.size ∧ ∃ m, s'.heap.Ns s.heap.objs.size m := by
  obtain ⟨m, hn, _⟩ := I'.loc
  have u : Un (frs X.stack) fp H H' s.heap s'.heap := I'.base
  have J : Inv X pins σ H' s' := I.call' (ch := fp) I'.os u I'.hok I'.bare fun b hb => by
    obtain ⟨_, a1, _, a3, a4, a5⟩ := hf b hb
    exact ⟨a3, a1, a4, a5⟩
  exact ⟨J, I.fpOk (Nat.le_refl _) I'.free, m, hn⟩

noncomputable def KeepG (n : Nat) (g : TG) : Prop := ∀ x σ H Q, g x σ H Q → g x σ H fun σ2 H2 => Q σ2 H2 ∧ σ2.length = σ.length ∧ ∀ z, n ≤ z → σ2[z]? = σ[z]?
noncomputable def KeepGs (n : Nat) (g : TGs) : Prop := ∀ xs σ H Q, g xs σ H Q → g xs σ H fun σ2 H2 => Q σ2 H2 ∧ σ2.length = σ.length ∧ ∀ z, n ≤ z → σ2[z]? = σ[z]?
theorem keep_name {n i : Nat} (h : i < n) : KeepG n (gName i) := fun x σ H Q q => ⟨q, by simp, fun z hz => by rw [List.getElem?_set_ne (by omega)]⟩
theorem keep_nil {n : Nat} : KeepGs n gNil := fun xs σ H Q q => ⟨q.1, q.2, rfl, fun _ _ => rfl⟩
theorem keep_cons {n i : Nat} {u : TGs} (h : i < n) (hu : KeepGs n u) (hm : ∀ xs σ H (Q Q' : St → Hp → Prop), u xs σ H Q → (∀ a b, Q a b → Q' a b) → u xs σ H Q') : KeepGs n (gCons (gName i) u) := fun xs σ H Q q => by
  obtain ⟨v, r, e, q⟩ := q
  refine ⟨v, r, e, hm r _ H _ _ (hu r _ H _ q) fun σ2 H2 ⟨p, l, k⟩ => ⟨p, by rw [l]; simp, fun z hz => ?_⟩⟩
  rw [k z hz, List.getElem?_set_ne (by omega)]
theorem mono_nil : ∀ xs σ H (Q Q' : St → Hp → Prop), gNil xs σ H Q → (∀ a b, Q a b → Q' a b) → gNil xs σ H Q' := fun xs σ H Q Q' q m => ⟨q.1, m _ _ q.2⟩
theorem mono_cons {i : Nat} {u : TGs} (hm : ∀ xs σ H (Q Q' : St → Hp → Prop), u xs σ H Q → (∀ a b, Q a b → Q' a b) → u xs σ H Q') :
    ∀ xs σ H (Q Q' : St → Hp → Prop), gCons (gName i) u xs σ H Q → (∀ a b, Q a b → Q' a b) → gCons (gName i) u xs σ H Q' := fun xs σ H Q Q' ⟨v, r, e, q⟩ m => ⟨v, r, e, hm r _ H _ _ q m⟩
theorem keep_pair {K : PySem.W.Frag} {n m i j : Nat} (hi : i < n) (hj : j < n) : KeepG n (gTup K m (gCons (gName i) (gCons (gName j) gNil))) := fun x σ H Q q => by
  obtain ⟨a, xs, e, hq, hl, q⟩ := q
  exact ⟨a, xs, e, hq, hl, keep_cons hi (keep_cons hj keep_nil mono_nil) (mono_cons mono_nil) xs σ H Q q⟩
theorem comp_core {X : Cx} {elt tg iter : Expr} {ifs : List Expr} {scope : Scope} {pos : Pos} {N : List Str} {n : Nat} {cap : List Nat} {g : TG} {tt : TT} {te : TE}
    {cl : List (Str × Addr)} {RR : Value → Addr → Result → Shared → Prop} {E : Value → Shared → Prop}
    (hc : X.calm = true) (B : Blk X scope N n cap) (c1 : ∀ x c, cl.lookup x = some c → X.env.cells.lookup x = some c) (c2 : ∀ y ∈ scope.names, y.2 = .free → ∃ c, cl.lookup y.1 = some c)
    (hk : KeepG n g) (hg : ∀ cl fp s H, PG (cxComp X N scope cl fp s H) tg g) (ht : ∀ cl fp s H, PTs (cxComp X N scope cl fp s H) ifs tt) (he : ∀ cl fp s H, PE (cxComp X N scope cl fp s H) elt te)
    {pins : List (Addr × Obj)} {σ : St} {Q : VK} {itv : Value} {s2 : Shared}
    (h : PIE X pins σ tg (fun J H1 => ∀ D, H1 D = none → compRun J D n cap σ g tt te Q H1) itv s2)
    (hRR : ∀ (D C : Addr) (H' : Hp) (s' : Shared) (m : Str → Option Value), Inv X pins σ H' s' → FpOk X pins H' C → s'.heap.Ns C m → Q (.ref D) H' → RR (.ref D) C (.ok .next) s') :
    wpAny (model X.prog X.w) X.A (newList []) (fun acc s3 =>
      wpAny (model X.prog X.w) X.A (newFunctionEnv scope X.env.globals cl [] X.env.qual none .none (some X.env)) (fun cenv s4 =>
        codeAny (model X.prog X.w) X.A (.compStart (.ListComp elt [⟨tg, iter, ifs, 0⟩] scope pos) 0 itv acc { cenv with scope := relabel scope X.env })
          (RR acc cenv.locals) s4) E s3) E s2 := by
  obtain ⟨it, fp, tn, J, H2, e, I2, T, st2, f2, q2⟩ := h
  subst e
  refine wpAny_newObj_type ?_ (by show 0 ≤ sizeLine; decide)
  have hD : H2 s2.heap.objs.size = none := I2.hok.fresh (Nat.le_refl _)
  obtain ⟨W, ⟨m0, w0⟩, turn⟩ := q2 _ hD
  have I3 : Inv X pins σ (upd H2 s2.heap.objs.size (.lst [])) { s2 with heap := s2.heap.push { cls := .type "list", data := .seq ([] : List Value).toArray }, toks := s2.toks } :=
    I2.lnew .nil (by show 0 ≤ sizeLine; decide)
  have st3 : tn 0 (s2.heap.push { cls := .type "list", data := .seq ([] : List Value).toArray }) := T.keep _ _ _ st2 fun b _ o e => Heap.get?_push_of_some _ e
  have obj2 := T.obj _ _ st2
  have fD : ∀ b ∈ fp, b ≠ s2.heap.objs.size := fun b hb => by
    obtain ⟨o, eo, _⟩ := obj2 b hb
    exact Nat.ne_of_lt (Heap.lt_size eo)
  have f3 : ∀ b ∈ fp, FpOk X pins (upd H2 s2.heap.objs.size (.lst [])) b := fun b hb => ⟨by rw [upd_ne (fD b hb)]; exact (f2 b hb).1, (f2 b hb).2⟩
  have go3 : ∀ (s3 : Shared) (H3 : Hp), Inv X pins σ H3 s3 → tn 0 s3.heap → (∀ b ∈ fp, FpOk X pins H3 b) → W 0 m0 H3 →
      wpAny (model X.prog X.w) X.A (newFunctionEnv scope X.env.globals cl [] X.env.qual none .none (some X.env)) (fun cenv s4 =>
        codeAny (model X.prog X.w) X.A (.compStart (.ListComp elt [⟨tg, iter, ifs, 0⟩] scope pos) 0 (.ref it) (.ref s2.heap.objs.size) { cenv with scope := relabel scope X.env })
          (RR (.ref s2.heap.objs.size) cenv.locals) s4) E s3 := by
    intro s3 H3 I3 st3 f3 w0
    refine wpAny_newFunctionEnv B.cell (fun y hy => nomatch hy) (fun h4 n4 sb4 => ?_) B.kind
    have k4 : ∀ b o, s3.heap.get? b = some o → h4.get? b = some o := fun b o e => sb4.extBut b o (Nat.ne_of_lt (Heap.lt_size e)) (Heap.get?_push_of_some _ e)
    have fl3 : ∀ b ∈ fp, b < s3.heap.objs.size := fun b hb => by
      obtain ⟨o, eo, _⟩ := T.obj _ _ st3 b hb
      exact Heap.lt_size eo
    have I4 : Inv (cxComp X N scope cl fp s3 H3) [] (blockSt n cap σ) H3 { s3 with heap := h4, toks := s3.toks + ([] : List (Str × Value)).length } :=
      comp_start I3 B c1 c2 f3 fl3 n4 k4
    have st4 : tn 0 h4 := T.keep _ _ _ st3 fun b _ o e => k4 b o e
    have stat : ∀ {H' : Hp}, (∀ b ∈ fp, H' b = none) → ∀ b ∈ fp, FpOk (cxComp X N scope cl fp s3 H3) [] H' b := fun hn b hb => by
      obtain ⟨_, a1, a2, _, a4, _⟩ := f3 b hb
      refine ⟨hn b hb, Nat.ne_of_lt (fl3 b hb), fun z => ?_, .inl hb, fun x c e => a4 x c (c1 x c e), fun p hp => nomatch hp⟩
      rcases List.mem_cons.mp (I3.stkSub b z) with e | e
      · exact a1 e
      · exact a2 e
    have loop : ∀ s5 : Shared, s5 = { s3 with heap := h4, toks := s3.toks + ([] : List (Str × Value)).length } →
        codeAny (model X.prog X.w) X.A (.compLoop (.ListComp elt [⟨tg, iter, ifs, 0⟩] scope pos) 0 (.ref it) (.ref s2.heap.objs.size) (compEnvC scope cl s3.heap.objs.size X.env))
          (RR (.ref s2.heap.objs.size) s3.heap.objs.size) s5 := by
      rintro s5 rfl
      refine comp_loop_any (fun k s' => ∃ i H', Inv (cxComp X N scope cl fp s3 H3) [] (blockSt n cap σ) H' s' ∧ tn i s'.heap ∧ (∀ b ∈ fp, H' b = none) ∧ W i k H') ?_ m0
        ⟨0, H3, I4, st4, fun b hb => (f3 b hb).1, w0⟩
      rintro k s6 ⟨i, H6, I6, st6, fr6, w6⟩
      rcases turn i k H6 w6 with ⟨stop, qn⟩ | ⟨go, N6, hN6, step⟩
      · refine thn (T.done (cxComp X N scope cl fp s3 H3) rfl rfl rfl hc i [] s6 _ H6 _ I6 (stat fr6) st6 stop) fun r s7 ⟨hr, I7⟩ => ?_
        subst hr
        obtain ⟨J7, C7, m7, n7⟩ := comp_end I3 I7 f3
        exact hRR _ _ H6 s7 m7 J7 C7 n7 qn
      · refine thn (T.item (cxComp X N scope cl fp s3 H3) rfl rfl rfl hc i [] s6 _ H6 _ I6 (stat fr6) st6 go) fun r s7 ⟨u, hr, h7⟩ => ?_
        subst hr
        refine thn h7 fun _ s8 ⟨x, H8, I8, r8, y8, st8, fr8⟩ => ?_
        have I8' := I8.pinned (stat fr8) (T.obj _ _ st8)
        refine thn (hg cl fp s3 H3 _ s8 _ H8 x u _ I8' r8 (hk _ _ _ _ (step x H8 y8))) fun _ s9 ⟨σ9, H9, I9, q9, l9, k9⟩ => ?_
        refine thn (ht cl fp s3 H3 _ s9 σ9 H9 _ I9 q9) fun b s10 ⟨H10, I10, q10⟩ => ?_
        have wk : ∀ (z : Nat) v, (blockSt n cap σ)[z]? = some (some v) → σ9[z]? = some (some v) := fun z v e => by
          obtain ⟨kk, j, rfl, _, _⟩ := blk_get e
          rw [k9 _ (Nat.le_add_right _ _)]
          exact e
        have back : ∀ {Ha : Hp} {sa : Shared} {j : Nat}, Inv (cxComp X N scope cl fp s3 H3) ([] ++ pinsAt fp s8.heap) σ9 Ha sa → W (i + 1) j Ha →
            ∃ i H', Inv (cxComp X N scope cl fp s3 H3) [] (blockSt n cap σ) H' sa ∧ tn i sa.heap ∧ (∀ b ∈ fp, H' b = none) ∧ W i j H' := fun {Ha sa j} Ia wa => by
          refine ⟨i + 1, Ha, (Ia.unpinned).weak l9.symm wk, T.keep _ _ _ st8 fun b hb o e => (Ia.pin (b, o) (List.mem_append_right _ (List.mem_append_right _ (mem_pinsAt hb e)))).1, fun b hb => ?_, wa⟩
          obtain ⟨o, e, d⟩ := T.obj _ _ st8 b hb
          exact (Ia.pin (b, o) (List.mem_append_right _ (List.mem_append_right _ (mem_pinsAt hb e)))).2.1
        cases b with
        | false =>
          rw [if_neg Bool.false_ne_true] at q10 ⊢
          obtain ⟨m', hm, w'⟩ := hN6 _ q10
          exact ⟨m', hm, back I10 w'⟩
        | true =>
          rw [if_pos rfl] at q10 ⊢
          refine thn (he cl fp s3 H3 _ s10 σ9 H10 _ I10 q10) fun y s11 ⟨yv, H11, I11, r11, q11⟩ => ?_
          obtain ⟨xs, eD, hl, q11⟩ := q11
          obtain ⟨m', hm, w'⟩ := hN6 _ q11
          refine thn (mt_append _ s11 σ9 H11 (.ref s2.heap.objs.size) [yv] (.ref s2.heap.objs.size) [y] (fun _ Hz => Hz = upd H11 s2.heap.objs.size (.lst (xs ++ [yv]))) I11 rfl (.cons r11 .nil)
            ⟨_, xs, yv, rfl, rfl, eD, hl, rfl⟩) fun _ s12 ⟨_, H12, I12, _, e12⟩ => ?_
          subst e12
          exact ⟨m', hm, back I12 w'⟩
    exact codeAny_compStart_list (loop _ rfl) (T.self _ _ _ _ _ st4 (loop _ rfl))
  exact go3 _ _ I3 st3 f3 w0

section
variable {X : Cx} {elt tg iter : Expr} {ifs : List Expr} {scope : Scope} {pos : Pos} {N : List Str} {n : Nat} {cap : List Nat} {wi : TI} {g : TG} {tt : TT} {te : TE}
theorem pe_comp (hc : X.calm = true) (B : Blk X scope N n cap) (hi : PI X tg iter wi) (hk : KeepG n g)
    (hg : ∀ cl fp s H, PG (cxComp X N scope cl fp s H) tg g) (ht : ∀ cl fp s H, PTs (cxComp X N scope cl fp s H) ifs tt) (he : ∀ cl fp s H, PE (cxComp X N scope cl fp s H) elt te)
    (hs : ∀ x, foldedSetIterable iter X.env x = pure x := by intro _; rfl) : PE X (.ListComp elt [⟨tg, iter, ifs, 0⟩] scope pos) (tComp n cap wi g tt te) := by
  intro pins s σ H Q I h
  obtain ⟨cl, ecl, c1, c2⟩ := closure_ok (scope := scope) (env := X.env) fun y hy k => I.ok.has y.1 (B.free y hy k)
  rw [eval_ListComp]
  refine wpAny_comprehension_free (use := none) rfl hs ecl B.kind B.names ?_
  refine thn (hi pins s σ H _ I h) fun v s1 h1 => thn h1 fun itv s2 h2 => ?_
  refine comp_core (RR := fun acc C => compPost (model X.prog X.w) X.A X.xe none (EP X pins σ Q) acc C) hc B c1 c2 hk hg ht he h2 fun D C H' s' m J f nn q => ?_
  exact ⟨m, nn, fun h' sb => ⟨.ref D, H', J.turned (t' := s'.toks) (fun b o hb e => sb.extBut b o hb e) f.1 f.2.1 f.2.2.2.1 f.2.2.2.2.1 f.2.2.2.2.2, rfl, q⟩⟩
theorem ps_setC {i : Nat} {x : Str} {pos' spos : Pos} (hc : X.calm = true) (B : Blk X scope N n cap) (hN : X.N.Nodup) (hi : X.N[i]? = some x) (hx : X.env.scope.names.lookup x = some .local) (hit : PI X tg iter wi) (hk : KeepG n g)
    (hg : ∀ cl fp s H, PG (cxComp X N scope cl fp s H) tg g) (ht : ∀ cl fp s H, PTs (cxComp X N scope cl fp s H) ifs tt) (he : ∀ cl fp s H, PE (cxComp X N scope cl fp s H) elt te)
    (hsw : swapsWith (.ListComp elt [⟨tg, iter, ifs, 0⟩] scope pos) (some (.Name x pos')) spos.line X.env = pure true)
    (hs : ∀ x, foldedSetIterable iter X.env x = pure x := by intro _; rfl) :
    PS X (.Assign [.Name x pos'] (.ListComp elt [⟨tg, iter, ifs, 0⟩] scope pos) spos) (tAsg (tComp n cap wi g tt te) (gName i)) := by
  intro pins s σ H D I h
  obtain ⟨cl, ecl, c1, c2⟩ := closure_ok (scope := scope) (env := X.env) fun y hy k => I.ok.has y.1 (B.free y hy k)
  rw [exec_Assign_Name_used _ _ _ _ hsw]
  refine wpAny_bind (wpAny_standAt (wpAny_bind ?_))
  show wpAny _ X.A (do
    let _ ← comprehension (.ListComp elt [⟨tg, iter, ifs, 0⟩] scope pos) scope X.env _ (newList []) false (eval iter X.env)
      (some (assign (.Name x pos') X.env))) _ _ s
  refine wpAny_bind (thn (wpAny_comprehension_free (use := some (assign (.Name x pos') X.env)) (Q := fun _ s' => SP X pins D .next s') rfl hs ecl B.kind B.names ?_) fun _ s' hq => wpAny_pure (wpAny_pure hq))
  refine thn (hit pins s σ H _ I h) fun v s1 h1 => thn h1 fun itv s2 h2 => ?_
  refine comp_core (Q := fun y H2 => gName i y σ H2 D.nx) (RR := fun acc C => compPost (model X.prog X.w) X.A X.xe (some (assign (.Name x pos') X.env)) (fun _ s' => SP X pins D .next s') acc C) hc B c1 c2 hk hg ht he h2 fun Dl C H' s' m J f nn q => ?_
  show wpAny (model X.prog X.w) X.A (assign (.Name x pos') X.env (.ref Dl)) _ X.xe s'
  refine wpAny_assign_Name (store_ok2 J hN hi (.inl hx) (show RelV (.ref Dl) (.ref Dl) from rfl) (fun s3 I3 ⟨a, sb, ha⟩ => ?_) (.inr hx))
  have ca : C ≠ a := by
    rcases ha with e | e
    · rw [e]; exact f.2.1
    · exact fun z => f.2.2.2.2.1 x a e z.symm
  refine ⟨m, nn.sameBut sb ca, fun h' sb' => ⟨_, H', I3.turned (t' := s3.toks) (fun b o hb e => sb'.extBut b o hb e) f.1 f.2.1 f.2.2.2.1 f.2.2.2.2.1 f.2.2.2.2.2, q⟩⟩
end

section
variable {g : TG} {tt : TT} {te : TE} {n0 : Nat} {cap : List Nat} {σ : St} {Q : VK} {D : Addr} {H1 : Hp} {K : PySem.W.Frag}
theorem comp_range {lo : Int} {n : Nat} (Pv : Nat → Hp → Prop) (h0 : Pv 0 (upd H1 D (.lst [])))
    (hs : ∀ i H, i < n → Pv i H → g (.int (lo + i)) (blockSt n0 cap σ) H fun σ2 H2 => tt σ2 H2 fun b H3 => if b = true then te σ2 H3 fun y H4 => ∃ xs, H4 D = some (.lst xs) ∧ xs.length < sizeLine ∧ Pv (i + 1) (upd H4 D (.lst (xs ++ [y]))) else Pv (i + 1) H3)
    (hd : ∀ H, Pv n H → Q (.ref D) H) :
    compRun (Itr lo n) D n0 cap σ g tt te Q H1 := by
  refine ⟨fun i m H => m = n - i ∧ i ≤ n ∧ Pv i H, ⟨n, by simp, Nat.zero_le _, h0⟩, ?_⟩
  rintro i m H ⟨rfl, hi, p⟩
  by_cases hlt : i < n
  · refine .inr ⟨hlt, Pv (i + 1), fun H' p' => ⟨n - (i + 1), by omega, rfl, hlt, p'⟩, fun x H' y => ?_⟩
    obtain ⟨e1, e2⟩ := y
    subst e1 e2
    exact hs i _ hlt p
  · have e : i = n := by omega
    subst e
    exact .inl ⟨Nat.le_refl _, hd H p⟩
theorem comp_list {a : Addr} {xs : List V} (Pv : Nat → Hp → Prop) (h0 : Pv 0 (upd H1 D (.lst []))) (hl : ∀ i H, i ≤ xs.length → Pv i H → SqL K H a xs)
    (hs : ∀ i x H, xs[i]? = some x → Pv i H → g x (blockSt n0 cap σ) H fun σ2 H2 => tt σ2 H2 fun b H3 => if b = true then te σ2 H3 fun y H4 => ∃ xs, H4 D = some (.lst xs) ∧ xs.length < sizeLine ∧ Pv (i + 1) (upd H4 D (.lst (xs ++ [y]))) else Pv (i + 1) H3)
    (hd : ∀ H, Pv xs.length H → Q (.ref D) H) :
    compRun (Itl K a) D n0 cap σ g tt te Q H1 := by
  refine ⟨fun i m H => m = xs.length - i ∧ i ≤ xs.length ∧ Pv i H, ⟨xs.length, by simp, Nat.zero_le _, h0⟩, ?_⟩
  rintro i m H ⟨rfl, hi, p⟩
  have q := hl i H hi p
  by_cases hlt : i < xs.length
  · refine .inr ⟨⟨xs, xs[i], q, by simp [hlt]⟩, Pv (i + 1), fun H' p' => ⟨xs.length - (i + 1), by omega, rfl, hlt, p'⟩, fun x H' y => ?_⟩
    obtain ⟨e1, y⟩ := y
    subst e1
    exact hs i x _ (y xs q) p
  · have e : i = xs.length := by omega
    subst e
    exact .inl ⟨⟨xs, q, Nat.le_refl _⟩, hd H p⟩
theorem comp_tup {a : Addr} {xs : List V} (Pv : Nat → Hp → Prop) (h0 : Pv 0 (upd H1 D (.lst []))) (hl : ∀ i H, i ≤ xs.length → Pv i H → SqT K H a xs)
    (hs : ∀ i x H, xs[i]? = some x → Pv i H → g x (blockSt n0 cap σ) H fun σ2 H2 => tt σ2 H2 fun b H3 => if b = true then te σ2 H3 fun y H4 => ∃ xs, H4 D = some (.lst xs) ∧ xs.length < sizeLine ∧ Pv (i + 1) (upd H4 D (.lst (xs ++ [y]))) else Pv (i + 1) H3)
    (hd : ∀ H, Pv xs.length H → Q (.ref D) H) :
    compRun (Itt K a) D n0 cap σ g tt te Q H1 := by
  refine ⟨fun i m H => m = xs.length - i ∧ i ≤ xs.length ∧ Pv i H, ⟨xs.length, by simp, Nat.zero_le _, h0⟩, ?_⟩
  rintro i m H ⟨rfl, hi, p⟩
  have q := hl i H hi p
  by_cases hlt : i < xs.length
  · refine .inr ⟨⟨xs, xs[i], q, by simp [hlt]⟩, Pv (i + 1), fun H' p' => ⟨xs.length - (i + 1), by omega, rfl, hlt, p'⟩, fun x H' y => ?_⟩
    obtain ⟨e1, y⟩ := y
    subst e1
    exact hs i x _ (y xs q) p
  · have e : i = xs.length := by omega
    subst e
    exact .inl ⟨⟨xs, q, Nat.le_refl _⟩, hd H p⟩
end
end L2
namespace L2
open PySem PySem.Spec PyProof.Rows

theorem Inv.laidC {X : Cx} {pins : List (Addr × Obj)} {σ : St} {H : Hp} {s : Shared} {h' : Heap} {a : Addr} {o : HO} {t' : Nat} {ch : List Addr} (I : Inv X pins σ H s)
    (hch : ∀ b ∈ ch, FpOk X pins H b) (k : ∀ b u, b ∉ ch → s.heap.get? b = some u → h'.get? b = some u) (hp : s.heap.objs.size ≤ a)
    (new : ObjOk X.prog X.w (upd H a o) h' a o) : Inv X pins σ (upd H a o) { s with heap := h', toks := t' } := by
  have hn := I.hok.fresh hp
  have nch : ∀ c u, H c = some u → c ∉ ch := fun c u e z => by rw [(hch c z).1] at e; cases e
  refine I.step (g' := s.gens) (d' := s.drawn) (ch := ch) (fun b hb => ⟨(hch b hb).2.2.2.1, (hch b hb).2.1, (hch b hb).2.2.2.2.1, (hch b hb).2.2.2.2.2⟩)
    (fun b u _ _ hc e _ => k b u hc e) (fun b u _ _ hc e _ => ⟨u.slots, k b u hc e⟩)
    (fun b u _ e n => by rw [upd_ne (Nat.ne_of_lt (Nat.lt_of_lt_of_le (Heap.lt_size e) hp))]; exact n) (fun b u hc e => ⟨u, k b u hc e⟩)
    (fun b xs q => by rw [upd_ne (ne_of_none q hn)]; exact q) (fun b u xs q => by rw [upd_ne (ne_of_none q hn)]; exact q)
    (fun b ps q => ⟨#[], by rw [upd_ne (ne_of_none q hn), q]; simp⟩) (fun m hm => ?_) (fun b u e => ?_) I.bare
  · exact hm.at' fun ob e => k _ ob (fun z => (hch _ z).2.1 rfl) e
  · by_cases hb : b = a
    · subst hb; rw [upd_same] at e; cases e; exact new
    · rw [upd_ne hb] at e
      refine (I.hok b u e).stay (fun c v hc q => k c v ?_ q) (fun c q => by rw [upd_ne (ne_of_none q hn)]; exact q) fun c xs q => by rw [upd_ne (ne_of_none q hn)]; exact q
      rcases hc with rfl | hc
      · exact nch _ _ e
      · exact nch _ _ hc

noncomputable def Ite (K : PySem.W.Frag) (a : Addr) : It :=
  ⟨fun i H => ∃ xs x, SqL K H a xs ∧ xs[i]? = some x,
   fun i H v H' => ∃ T x, H T = none ∧ v = .ref T ∧ H' = upd H T (.tup [.int i, x]) ∧ ∀ xs, SqL K H a xs → xs[i]? = some x,
   fun i H => ∃ xs, SqL K H a xs ∧ xs.length ≤ i⟩

theorem turn_enum {P : Program} {w : World} {K : PySem.W.Frag} {elts : List Expr} {k : Nat} {tp : Pos} (a e it : Addr) (hne : e ≠ it) :
    Turn P w K (.Tuple elts k tp) (Ite K a) [e, it] e (fun i h => (∃ old, IsEnum h e it (i : Nat) old) ∧ h.IsListIter it a i) where
  mem := by simp
  obj := fun i h st b hb => by
    obtain ⟨⟨old, he⟩, o, eo, c, d⟩ := st
    rcases List.mem_cons.mp hb with rfl | hb
    · exact ⟨_, he, fun v z => nomatch z⟩
    · have q : b = it := by simpa using hb
      subst q
      exact ⟨o, eo, fun v z => by rw [d] at z; cases z⟩
  keep := fun i h h' st k => by
    obtain ⟨⟨old, he⟩, hit⟩ := st
    exact ⟨⟨old, k e (by simp) _ he⟩, hit.at fun o q => k it (by simp) o q⟩
  item := by
    intro X hP hw hK hc i pins s σ H E I hf st hg
    subst hP hw hK
    obtain ⟨⟨old, he⟩, hit⟩ := st
    obtain ⟨xs, x, hq, hx⟩ := hg
    obtain ⟨its, rv, p, hz⟩ := I.list hq
    obtain ⟨u, hu, ru⟩ := rv.get hx
    have fe := hf e (by simp)
    have fi := hf it (by simp)
    refine wpAny_pyNext_enum_item he hit p.isList (x := u) (by simpa using hu) hne fun h' ho hit' hT hsz hk => ?_
    have eT : e ≠ s.heap.objs.size := Nat.ne_of_lt (Heap.lt_size he)
    have iT : it ≠ s.heap.objs.size := by
      obtain ⟨o, eo, _⟩ := hit
      exact Nat.ne_of_lt (Heap.lt_size eo)
    have I1 : Inv X pins σ (upd H s.heap.objs.size (.tup [.int i, x])) { s with heap := h', toks := s.toks + 1 } :=
      I.laidC (ch := [e, it]) hf (fun b v hb q => hk b v (fun z => hb (by simp [z])) (fun z => hb (by simp [z])) q) (Nat.le_refl _)
        ⟨(by show 2 ≤ sizeLine; decide), [.int i s.toks, u], .cons ⟨_, rfl⟩ (.cons ru .nil), _, hT, rfl, _, rfl⟩
    refine ⟨_, rfl, wpAny_letOwnedTupleGo_enum ho fun h2 he2 sb2 => ?_⟩
    have I2 : Inv X pins σ (upd H s.heap.objs.size (.tup [.int i, x])) { s with heap := h2, toks := s.toks + 1 } :=
      I1.turned (t' := s.toks + 1) (fun b o hb q => (sb2.2 b hb).trans q) (by rw [upd_ne eT]; exact fe.1) fe.2.1 fe.2.2.2.1 fe.2.2.2.2.1 fe.2.2.2.2.2
    refine ⟨.ref s.heap.objs.size, _, I2, rfl, ⟨_, x, I.hok.fresh (Nat.le_refl _), rfl, rfl, fun ys hy => by rw [I.list_inj hy hq]; exact hx⟩, ⟨⟨u, ?_⟩, ?_⟩, fun b hb => ?_⟩
    · have : (((i + 1 : Nat)) : Int) = (i : Int) + 1 := by omega
      rw [this]
      exact he2
    · exact hit'.extBut sb2.extBut (Ne.symm hne)
    · rcases List.mem_cons.mp hb with rfl | hb
      · rw [upd_ne eT]; exact fe.1
      · have q : b = it := by simpa using hb
        subst q
        rw [upd_ne iT]; exact fi.1
  done := by
    intro X hP hw hK hc i pins s σ H E I hf st hg
    subst hP hw hK
    obtain ⟨⟨old, he⟩, hit⟩ := st
    obtain ⟨xs, hq, hx⟩ := hg
    obtain ⟨its, rv, p, hz⟩ := I.list hq
    have fi := hf it (by simp)
    have hl := rv.length
    exact wpAny_pyNext_enum_end (I.ok.hd hc) he hit p.isList (by simp; omega) fun h' eb =>
      ⟨rfl, I.turned (t' := s.toks) (fun b o hb q => eb b o hb q) fi.1 fi.2.1 fi.2.2.2.1 fi.2.2.2.2.1 fi.2.2.2.2.2⟩
  self := fun _ _ _ _ _ st h => by
    obtain ⟨⟨old, he⟩, _⟩ := st
    exact wpAny_pyIter_enum he h

noncomputable def iEnum (K : PySem.W.Frag) (ta : TA) : TI := fun σ H R => ta σ H fun vs H1 => ∃ l, vs = [.ref l] ∧ (∃ xs, SqL K H1 l xs) ∧ R (Ite K l) H1
theorem pi_enum {X : Cx} {a : Expr} {ta : TA} {p pos tp : Pos} {elts : List Expr} {k : Nat} (hg : Gl X "enumerate") (hm : X.mg "enumerate" = none) (ha : PA X [a] ta)
    (hs : starEach [a] X.env = [(false, eval a X.env)] := by rfl) : PI X (.Tuple elts k tp) (.Call (.Name "enumerate" p) [a] [] pos) (iEnum X.K ta) := by
  intro pins s σ H R I h
  refine Call_ (ld_blt I hg hm boot_enumerate (PyProof.Rows.callWith_type1 (thn (ha pos pins s σ H _ I h) fun us s1 ⟨vs, H1, I1, r1, q1⟩ => ?_) hs rfl))
  obtain ⟨l, e, ⟨xs, hq⟩, q⟩ := q1
  subst e
  cases r1 with
  | cons r rr =>
    cases rr
    cases r
    obtain ⟨its, rv, pl, hz⟩ := I1.list hq
    refine call_enumerate_list pl.isList fun h' he hit hz' hk => ?_
    refine wpAny_pyIter_enum he ?_
    refine ⟨s1.heap.objs.size + 1, [s1.heap.objs.size + 1, s1.heap.objs.size], _, _, H1, rfl, I1.kept (t' := s1.toks) hk, turn_enum l _ _ (Nat.succ_ne_self _), ⟨⟨_, he⟩, hit⟩, fun b hb => ?_, q⟩
    have le : s1.heap.objs.size ≤ b := by
      rcases List.mem_cons.mp hb with z | hb
      · rw [z]; exact Nat.le_succ _
      · have z : b = s1.heap.objs.size := by simpa using hb
        rw [z]; exact Nat.le_refl _
    exact I1.fpOk le (I1.hok.fresh le)

theorem for_enum {K : PySem.W.Frag} {a : Addr} {xs : List V} {g : TG} {tb : TS} {D : Ends} {σ : St} {H : Hp} (Pv : Nat → St → Hp → Prop) (h0 : Pv 0 σ H)
    (hl : ∀ i σ H, i ≤ xs.length → Pv i σ H → SqL K H a xs)
    (hs : ∀ i x σ H T, xs[i]? = some x → Pv i σ H → H T = none → g (.ref T) σ (upd H T (.tup [.int i, x])) fun σ2 H2 => tb { D with nx := Pv (i + 1), ct := Pv (i + 1), bk := D.nx } σ2 H2)
    (hd : ∀ σ H, Pv xs.length σ H → D.nx σ H) :
    ∃ W : Nat → Nat → St → Hp → Prop, (∃ m, W 0 m σ H) ∧ ∀ i m σ H, W i m σ H →
      ((Ite K a).stop i H ∧ D.nx σ H) ∨ ((Ite K a).go i H ∧ ∃ N : St → Hp → Prop, (∀ σ' H', N σ' H' → ∃ m', m' < m ∧ W (i + 1) m' σ' H') ∧
        ∀ x H', (Ite K a).yld i H x H' → g x σ H' fun σ2 H2 => tb { D with nx := N, ct := N, bk := D.nx } σ2 H2) := by
  refine ⟨fun i m σ H => m = xs.length - i ∧ i ≤ xs.length ∧ Pv i σ H, ⟨xs.length, by simp, Nat.zero_le _, h0⟩, ?_⟩
  rintro i m σ H ⟨rfl, hi, p⟩
  have q := hl i σ H hi p
  by_cases hlt : i < xs.length
  · refine .inr ⟨⟨xs, xs[i], q, by simp [hlt]⟩, Pv (i + 1), fun σ' H' p' => ⟨xs.length - (i + 1), by omega, rfl, hlt, p'⟩, fun x H' y => ?_⟩
    obtain ⟨T, z, hT, e1, e2, y⟩ := y
    subst e1 e2
    exact hs i z σ H T (y xs q) p hT
  · have e : i = xs.length := by omega
    subst e
    exact .inl ⟨⟨xs, q, Nat.le_refl _⟩, hd σ H p⟩
end L2
namespace L2
open PySem PySem.Spec PyProof.Rows
open PySem.W (Dat kqdP kqdPs kqdOk)

mutual
inductive Rep (K : PySem.W.Frag) (H : Hp) : V → Dat → Prop
  | non : Rep K H .non .none
  | bl (b : Bool) : Rep K H (.bl b) (.bool b)
  | int (i : Int) : Rep K H (.int i) (.int i)
  | str (x : Str) : Rep K H (.str x) (.str x)
  | tup {a : Addr} {xs : List V} {ds : List Dat} : SqT K H a xs → Reps K H xs ds → Rep K H (.ref a) (.tuple ds)
  | lst {a : Addr} {xs : List V} {ds : List Dat} : SqL K H a xs → Reps K H xs ds → Rep K H (.ref a) (.list ds)
inductive Reps (K : PySem.W.Frag) (H : Hp) : List V → List Dat → Prop
  | nil : Reps K H [] []
  | cons {x : V} {xs : List V} {d : Dat} {ds : List Dat} : Rep K H x d → Reps K H xs ds → Reps K H (x :: xs) (d :: ds)
end

theorem Same.seqT {K : PySem.W.Frag} {H H' : Hp} {a : Addr} {xs : List V} (e : Same H H') (h : SqT K H a xs) : SqT K H' a xs := by
  rcases h with h | h
  · rcases h with h | ⟨o, h⟩
    · exact .inl (.inl (e _ _ h))
    · exact .inl (.inr ⟨o, e _ _ h⟩)
  · exact .inr h
mutual
theorem Rep.mono {K : PySem.W.Frag} {H H' : Hp} (s : Same H H') : ∀ {v : V} {d : Dat}, Rep K H v d → Rep K H' v d
  | _, _, .non => .non
  | _, _, .bl b => .bl b
  | _, _, .int i => .int i
  | _, _, .str x => .str x
  | _, _, .tup h r => .tup (s.seqT h) (Reps.mono s r)
  | _, _, .lst h r => .lst (s.seq h) (Reps.mono s r)
theorem Reps.mono {K : PySem.W.Frag} {H H' : Hp} (s : Same H H') : ∀ {vs : List V} {ds : List Dat}, Reps K H vs ds → Reps K H' vs ds
  | _, _, .nil => .nil
  | _, _, .cons h r => .cons (Rep.mono s h) (Reps.mono s r)
end
theorem Reps.length {K : PySem.W.Frag} {H : Hp} : ∀ {vs : List V} {ds : List Dat}, Reps K H vs ds → vs.length = ds.length
  | _, _, .nil => rfl
  | _, _, .cons _ r => congrArg Nat.succ (Reps.length r)
theorem Reps.get {K : PySem.W.Frag} {H : Hp} : ∀ {vs : List V} {ds : List Dat} {i : Nat} {v : V}, Reps K H vs ds → vs[i]? = some v → ∃ d, ds[i]? = some d ∧ Rep K H v d
  | _, _, _, _, .nil, e => by simp at e
  | _, _, 0, _, .cons h _, e => by simp at e; subst e; exact ⟨_, rfl, h⟩
  | _, _, i + 1, v, .cons _ r, e => by
    obtain ⟨d, h1, h2⟩ := Reps.get (i := i) (v := v) r (by simpa using e)
    exact ⟨d, by simpa using h1, h2⟩
theorem Reps.getD {K : PySem.W.Frag} {H : Hp} : ∀ {vs : List V} {ds : List Dat} {i : Nat} {d : Dat}, Reps K H vs ds → ds[i]? = some d → ∃ v, vs[i]? = some v ∧ Rep K H v d
  | _, _, _, _, .nil, e => by simp at e
  | _, _, 0, _, .cons h _, e => by simp at e; subst e; exact ⟨_, rfl, h⟩
  | _, _, i + 1, v, .cons _ r, e => by
    obtain ⟨d, h1, h2⟩ := Reps.getD (i := i) (d := v) r (by simpa using e)
    exact ⟨d, by simpa using h1, h2⟩
theorem Reps.append {K : PySem.W.Frag} {H : Hp} : ∀ {vs us : List V} {ds es : List Dat}, Reps K H vs ds → Reps K H us es → Reps K H (vs ++ us) (ds ++ es)
  | _, _, _, _, .nil, s => s
  | _, _, _, _, .cons h r, s => .cons h (Reps.append r s)
theorem Reps.snoc {K : PySem.W.Frag} {H : Hp} {vs : List V} {ds : List Dat} {v : V} {d : Dat} (r : Reps K H vs ds) (h : Rep K H v d) : Reps K H (vs ++ [v]) (ds ++ [d]) := r.append (.cons h .nil)
theorem Reps.ints {K : PySem.W.Frag} {H : Hp} : ∀ ns : List Int, Reps K H (ns.map V.int) (ns.map Dat.int)
  | [] => .nil
  | n :: r => .cons (.int n) (Reps.ints r)

section
variable {X : Cx} {pins : List (Addr × Obj)} {σ : St} {H : Hp} {s : Shared}
mutual
theorem Rep.reads (I : Inv X pins σ H s) : ∀ (n : Nat) {v : V} {d : Dat} {u : Value}, Rep X.K H v d → RelV v u → kqdOk n d = true → ∃ as, Reads s.heap u (kqdP d) as
  | _, _, _, _, .non, r, _ => by cases (show _ = _ from r); exact ⟨_, Reads.none⟩
  | _, _, _, _, .bl b, r, _ => by cases (show _ = _ from r); exact ⟨_, Reads.bool b⟩
  | _, _, _, _, .int i, r, _ => by obtain ⟨t, rfl⟩ := r; exact ⟨_, Reads.int i t⟩
  | _, _, _, _, .str x, r, _ => by obtain ⟨t, rfl⟩ := r; exact ⟨_, Reads.str x t⟩
  | 0, _, _, _, .tup _ _, _, hk => by simp [kqdOk] at hk
  | 0, _, _, _, .lst _ _, _, hk => by simp [kqdOk] at hk
  | n + 1, _, _, _, .tup h q, r, hk => by
    cases (show _ = _ from r)
    obtain ⟨its, rv, ⟨o, e, c, m, d⟩, _⟩ := I.tuple h
    obtain ⟨as, z⟩ := Reps.reads I n q rv (by simpa [kqdOk] using hk)
    rw [kqdP]
    exact ⟨as, reads_tuple_at e c d (by simpa using z)⟩
  | n + 1, _, _, _, .lst h q, r, hk => by
    cases (show _ = _ from r)
    obtain ⟨its, rv, ⟨o, m, e, c, _, d⟩, _⟩ := I.list h
    obtain ⟨as, z⟩ := Reps.reads I n q rv (by simpa [kqdOk] using hk)
    rw [kqdP]
    exact ⟨_, reads_list_at e c d (by simpa using z)⟩
theorem Reps.reads (I : Inv X pins σ H s) : ∀ (n : Nat) {vs : List V} {ds : List Dat} {us : List Value}, Reps X.K H vs ds → Vals vs us → (∀ d ∈ ds, kqdOk n d = true) → ∃ as, ReadsAll s.heap us (kqdPs ds) as
  | _, _, _, _, .nil, r, _ => by cases r; exact ⟨_, ReadsAll.nil⟩
  | n, _, _, _, .cons h q, r, hk => by
    cases r with
    | cons r1 r2 =>
      obtain ⟨as, z⟩ := Rep.reads I n h r1 (hk _ (.head _))
      obtain ⟨bs, y⟩ := Reps.reads I n q r2 fun d hm => hk d (.tail _ hm)
      rw [kqdPs]
      exact ⟨_, ReadsAll.cons z y⟩
end
end

noncomputable def rEqD (K : PySem.W.Frag) (neg : Bool) : R2 := fun x y H Q => ∃ dx dy, Rep K H x dx ∧ Rep K H y dy ∧ kqdOk 8 dx = true ∧ kqdOk 8 dy = true ∧ (dx = dy → Q (.bl (!neg)) H) ∧ (dx ≠ dy → Q (.bl neg) H)
section
variable {X : Cx}
theorem shaped_of {d : Dat} (h : kqdOk 8 d = true) : SeqAt.shaped (kqdP d) = true := by
  have l := PySem.W.kqd_lay 8 d h
  unfold SeqAt.shaped
  rw [l.1, Bool.true_and]
  exact decide_eq_true (Nat.le_trans l.2 (by decide))
theorem op_eqD (hu : X.A.units + 64 < cLine) : OpR X (compareOp .Eq) (rEqD X.K false) := by
  intro pins s σ H x y v u Q I rx ry ⟨dx, dy, hx, hy, kx, ky, q1, q2⟩
  obtain ⟨as, ra⟩ := Rep.reads I 8 hx rx kx
  obtain ⟨bs, rb⟩ := Rep.reads I 8 hy ry ky
  have e := PySem.W.kqd_eqv 8 dx dy 8 kx ky
  refine eq_dataH ra rb (shaped_of kx) (shaped_of ky) hu ?_
  cases z : PyData.eqv (kqdP dx) (kqdP dy) with
  | true => exact ⟨.bl true, H, I, rfl, q1 (e.mp z)⟩
  | false => exact ⟨.bl false, H, I, rfl, q2 fun w => by rw [e.mpr w] at z; cases z⟩
theorem op_neD (hu : X.A.units + 64 < cLine) : OpR X (compareOp .NotEq) (rEqD X.K true) := by
  intro pins s σ H x y v u Q I rx ry ⟨dx, dy, hx, hy, kx, ky, q1, q2⟩
  obtain ⟨as, ra⟩ := Rep.reads I 8 hx rx kx
  obtain ⟨bs, rb⟩ := Rep.reads I 8 hy ry ky
  have e := PySem.W.kqd_eqv 8 dx dy 8 kx ky
  refine ne_dataH ra rb (shaped_of kx) (shaped_of ky) hu ?_
  cases z : PyData.eqv (kqdP dx) (kqdP dy) with
  | true => exact ⟨.bl false, H, I, rfl, q1 (e.mp z)⟩
  | false => exact ⟨.bl true, H, I, rfl, q2 fun w => by rw [e.mpr w] at z; cases z⟩
noncomputable def CBits (i j : Int) : Prop := Builtin.Int.intBits i ≤ 2 ^ 20 ∧ Builtin.Int.intBits j ≤ 2 ^ 20
theorem op_mulB : OpR X (binaryOp .Mult) (rI CBits fun i j => .int (i * j)) := opI fun i j t u s Q E h q => mul_int q (IntMulOk.of_bits h.1 h.2)
theorem bits_of {i : Int} {k : Nat} (hk : k ≤ 2 ^ 20) (h1 : -(2 ^ k) < i) (h2 : i < 2 ^ k) : Builtin.Int.intBits i ≤ 2 ^ 20 := by
  unfold Builtin.Int.intBits
  split
  · exact Nat.zero_le _
  · rename_i h0
    have hn : i.natAbs < 2 ^ k := by
      have e : ((2 ^ k : Nat) : Int) = 2 ^ k := by norm_cast
      omega
    have : i.natAbs.log2 < k := by
      refine (Nat.log2_lt ?_).mpr hn
      intro z
      simp at h0
      omega
    omega
end
end L2
namespace L2
open PySem PySem.Spec PyProof.Rows
section
variable {X : Cx} {K : PySem.W.Frag}
theorem ix_listK (h : X.K = K := by rfl) : IxR X (rIxL K) := by subst h; exact ix_list
theorem call_len_seqK (h : X.K = K := by rfl) : CallR X (.builtin "len") (fun xs H Q => ∃ p ys, xs = [.ref p] ∧ (SqL K H p ys ∨ SqT K H p ys) ∧ Q (.int ys.length) H) := by subst h; exact call_len_seq
theorem op_in_seqK (h : X.K = K := by rfl) : OpR X (compareOp .In) (rIn K false) := by subst h; exact op_in_seq
theorem pg_tupK {es : List Expr} {k : Nat} {t : TGs} {n : Nat} {pos : Pos} (hc : X.calm = true) (h : PGs X es t) (hK : X.K = K := by rfl)
    (hn : (assignEach es X.env).length = n := by rfl) (hst : (assignEach es X.env).findIdx? (·.1) = none := by rfl) : PG X (.Tuple es k pos) (gTup K n t) := by subst hK; exact pg_tup hc h hn hst
end
end L2
namespace L2
open PySem PySem.Spec PyProof.Rows
structure Bx (p : Prop) : Prop where
  get : p
section
variable {X : Cx} {a b c e l o i f elt tg iter target value : Expr} {es ts rest : List Expr} {st : Stmt} {sts body els : List Stmt} {ta tb tc te td ty tx tv tl to ti : TE} {tA tB' : TT} {t tr : TA} {s u tb' : TS} {g : TG} {gs : TGs} {wi : TI} {tt : TT}
  {pos apos cpos p pos' spos : Pos} {op op' : CmpOp} {bop : Operator} {r r' : R2} {lo hi : Option Expr} {tlo thi : TO}
theorem bpv (k : Nat) {x : Str} {pos : Pos} (hN : X.N[k]? = some x := by rfl) (hv : Vis X.env.scope x := by first | exact Or.inl rfl | exact Or.inr (Or.inl rfl) | exact Or.inr (Or.inr rfl))
    (hd : (x == ("__debug__" : Str)) = false := by decide) (hcd : (x == ("__classdict__" : Str)) = false := by decide) : Bx (PE X (.Name x pos) (tVar k)) := ⟨pe_var hN hv hd hcd⟩
theorem bpe_int {k : Int} {j pos} : Bx (PE X (.Constant (.int k) j pos) (tC (.int k))) := ⟨pe_int⟩
theorem bpe_bl {k : Bool} {j pos} : Bx (PE X (.Constant (.bool k) j pos) (tC (.bl k))) := ⟨pe_bl⟩
theorem bpe_str {x : Str} {j pos} : Bx (PE X (.Constant (.str x) j pos) (tC (.str x))) := ⟨pe_str⟩
theorem bpe_glob {x : Str} {v : V} {w : Value} {pos : Pos} (hg : Gl X x) (hm : X.mg x = some w) (r : RelV v w) (hd : (x == ("__debug__" : Str)) = false := by decide) : Bx (PE X (.Name x pos) (tC v)) := ⟨pe_glob hg hm r hd⟩
theorem bpe_op (ho : OpR X (binaryOp bop) r) (ha : Bx (PE X a ta)) (hb : Bx (PE X b tb)) : Bx (PE X (.BinOp a bop b pos) (tOp r ta tb)) := ⟨pe_op ho ha.1 hb.1⟩
theorem bpe_un {uop : UnaryOp} {r : V → Hp → VK → Prop} (ho : UnR X (unaryOp uop) r) (ha : Bx (PE X a ta)) : Bx (PE X (.UnaryOp uop a pos) (tUn r ta)) := ⟨pe_un ho ha.1⟩
theorem bpe_cmpR (ho : OpR X (compareOp op) r) (ha : Bx (PE X a ta)) (hb : Bx (PE X b tb)) (hm : behindInMarks op b = false) : Bx (PE X (.Compare a [op] [b] pos) (tOp r ta tb)) := ⟨pe_cmpR ho ha.1 hb.1 hm⟩
theorem bpt_cmpR (ho : OpR X (compareOp op) r) (ha : Bx (PE X a ta)) (hb : Bx (PE X b tb)) (hm : behindInMarks op b = false) : Bx (PT X (.Compare a [op] [b] pos) (tTest (tOp r ta tb))) := ⟨pt_cmpR ho ha.1 hb.1 hm⟩
theorem bpe_chain (ho : OpR X (compareOp op) r) (ho' : OpR X (compareOp op') r') (ha : Bx (PE X a ta)) (hb : Bx (PE X b tb)) (hc : Bx (PE X c tc)) (hm : lastMarks [op, op'] [b, c] = false := by with_unfolding_all rfl) : Bx (PE X (.Compare a [op, op'] [b, c] pos) (tChain r r' ta tb tc)) := ⟨pe_chain ho ho' ha.1 hb.1 hc.1 hm⟩
theorem bpc_din (hu : X.A.units + 1 < cLine) (hi : Bx (PE X i ty)) (ho : Bx (PE X o td)) : Bx (PC X .In i o (tDIn ty td)) := ⟨pc_din hu hi.1 ho.1⟩
theorem bpt_cmp (h : Bx (PC X op a b te)) (h1 : behindInMarks op b = false := by first | exact nobehind _ (by decide) (by decide) | rfl) : Bx (PT X (.Compare a [op] [b] pos) (tB te)) := ⟨pt_cmp h.1 h1⟩
theorem bpt_val (h : Bx (PE X e te)) (he : ∀ whole, isTrue e X.env whole = (do let v ← whole; standAt e.pos; holding [v] (truthy v)) := by intro _; rfl) : Bx (PT X e (tB te)) := ⟨pt_val h.1 he⟩
theorem bPW_pt (h : Bx (PW X e tt)) : Bx (PT X e tt) := ⟨h.1.pt⟩
theorem bpw_and1 (ha : Bx (PT X a tA)) : Bx (PW X (.BoolOp .And [a] pos) tA) := ⟨pw_and1 ha.1⟩
theorem bpw_or1 (ha : Bx (PT X a tA)) : Bx (PW X (.BoolOp .Or [a] pos) tA) := ⟨pw_or1 ha.1⟩
theorem bpw_and (ha : Bx (PT X a tA)) (hb : Bx (PW X (.BoolOp .And (b :: rest) pos) tB')) : Bx (PW X (.BoolOp .And (a :: b :: rest) pos) (tAnd tA tB')) := ⟨pw_and ha.1 hb.1⟩
theorem bpw_or (ha : Bx (PT X a tA)) (hb : Bx (PW X (.BoolOp .Or (b :: rest) pos) tB')) : Bx (PW X (.BoolOp .Or (a :: b :: rest) pos) (tOr tA tB')) := ⟨pw_or ha.1 hb.1⟩
theorem bpt_not (ha : Bx (PT X a tA)) : Bx (PT X (.UnaryOp .Not a pos) (tNot tA)) := ⟨pt_not ha.1⟩
theorem bpe_ifExp (hc : Bx (PT X c tA)) (ha : Bx (PE X a ta)) (hb : Bx (PE X b tb)) : Bx (PE X (.IfExp c a b pos) (tIf tA ta tb)) := ⟨pe_ifExp hc.1 ha.1 hb.1⟩
theorem bpa_nil : Bx (PA X [] tNil) := ⟨pa_nil⟩
theorem bpa_cons (ha : Bx (PE X e te)) (hr : Bx (PA X es t)) (hs : starEach (e :: es) X.env = (false, eval e X.env) :: starEach es X.env := by rfl) : Bx (PA X (e :: es) (tCons te t)) := ⟨pa_cons ha.1 hr.1 hs⟩
theorem bpe_tup {x1} (h : Bx (PA X es t)) : Bx (PE X (.Tuple es x1 pos) (tTup t)) := ⟨pe_tup h.1⟩
theorem bpe_lst (h : Bx (PA X es t)) : Bx (PE X (.List es pos) (tLst t)) := ⟨pe_lst h.1⟩
theorem bpe_ix (hr : IxR X r) (ha : Bx (PE X a ta)) (hb : Bx (PE X b tb)) (hs : PlainIx b) : Bx (PE X (.Subscript a b pos) (tOp r ta tb)) := ⟨pe_ix hr ha.1 hb.1 hs⟩
theorem bpe_dget (hu : X.A.units + 1 < cLine) (ho : Bx (PE X o td)) (hi : Bx (PE X i ty)) (hs : NoSl i) : Bx (PE X (.Subscript o i pos) (tDGet td ty)) := ⟨pe_dget hu ho.1 hi.1 hs⟩
theorem bpe_dnewK : Bx (PE X (.Dict [] [] pos) tDNewK) := ⟨pe_dnewK⟩
theorem bpps_nil : Bx (PPs X pos [] [] []) := ⟨pps_nil⟩
theorem bpps_cons {ks : List (Option Expr)} {vs : List Expr} {trs : List (TE × TE)} (hk : Bx (PE X a ta)) (hv : Bx (PE X b tb)) (hr : Bx (PPs X pos ks vs trs)) : Bx (PPs X pos (some a :: ks) (b :: vs) ((ta, tb) :: trs)) := ⟨pps_cons hk.1 hv.1 hr.1⟩
theorem bpe_disp {keys : List (Option Expr)} {values : List Expr} {trs : List (TE × TE)} (h : Bx (PPs X pos keys values trs)) (hall : keys.all (·.isSome) = true) (hl : keys.length = values.length) (h0 : keys ≠ []) (h15 : keys.length ≤ 15) : Bx (PE X (.Dict keys values pos) (tDisp trs)) := ⟨pe_disp h.1 hall hl h0 h15⟩
theorem bpo_none : Bx (PO X none tNoPart) := ⟨po_none⟩
theorem bpo_some (h : Bx (PE X e te)) : Bx (PO X (some e) (tPart te)) := ⟨po_some h.1⟩
theorem bpe_slice {r : V → Option Int → Option Int → Hp → VK → Prop} {p2 : Pos} (hr : SlR X r) (he : Bx (PE X e te)) (hl : Bx (PO X lo tlo)) (hu : Bx (PO X hi thi)) : Bx (PE X (.Subscript e (.Slice lo hi none p2) pos) (tSl r te tlo thi)) := ⟨pe_slice hr he.1 hl.1 hu.1⟩
theorem bpe_callB {r : List V → Hp → VK → Prop} {x : Str} {id : String} (hc : CallR X (.builtin id) r) (hg : Gl X x) (hm : X.mg x = none) (hv : bootBuiltins x = some (.builtin id)) (ha : Bx (PA X (e :: es) t)) (hn : x ≠ "__name__" := by decide) (hdb : (x == ("__debug__" : Str)) = false := by decide)
    (he : starEach (e :: es) X.env = (false, eval e X.env) :: starEach es X.env := by rfl) (hpl : (backTo pos (starEach es X.env)).any (·.1) = false := by rfl) : Bx (PE X (.Call (.Name x p) (e :: es) [] pos) (tCB r t)) := ⟨pe_callB hc hg hm hv ha.1 hn hdb he hpl⟩
theorem bpe_callTy {r : List V → Hp → VK → Prop} {x : Str} {T : String} (hc : CallR X (.type T) r) (hg : Gl X x) (hm : X.mg x = none) (hv : bootBuiltins x = some (.type T)) (ha : Bx (PA X (e :: es) t)) (hn : x ≠ "__name__" := by decide) (hdb : (x == ("__debug__" : Str)) = false := by decide)
    (he : starEach (e :: es) X.env = (false, eval e X.env) :: starEach es X.env := by rfl) (hpl : (backTo pos (starEach es X.env)).any (·.1) = false := by rfl) : Bx (PE X (.Call (.Name x p) (e :: es) [] pos) (tCB r t)) := ⟨pe_callTy hc hg hm hv ha.1 hn hdb he hpl⟩
theorem bpe_call {CX : CXT} {k : Nat} {fa : Addr} {fd : FuncData} {ps : List Str} {sp : Sp} {dvs : List V} {ds : List Value} {E : XK} {x : Str} (F : FnOk X.prog X.w X.K X.mg X.base CX k fa fd ps sp) (hr : Room k X.A) (hg : Gl X x) (hm : X.mg x = some (.ref fa)) (hk : PySem.W.keepIn X.K (.ref fa) = true)
    (hb : Binds X.K fd ps ds) (hd : Vals dvs ds) (hx : Passes CX X E) (ha : Bx (PA X (e :: es) t)) (hdb : (x == ("__debug__" : Str)) = false := by decide)
    (he : starEach (e :: es) X.env = (false, eval e X.env) :: starEach es X.env := by rfl) (hpl : (backTo pos (starEach es X.env)).any (·.1) = false := by rfl) : Bx (PE X (.Call (.Name x p) (e :: es) [] pos) (tCall sp dvs E t)) := ⟨pe_call F hr hg hm hk hb hd hx ha.1 hdb he hpl⟩
theorem bpe_bm {name : Str} {T id : String} {r : V → List V → Hp → VK → Prop} (pa : PlainAttrs T) (slot : Slot T name id) (hty : typeOf (.builtin id) = pure (.type "method_descriptor")) (hm : MtR X id r) (ho : Bx (PE X o to)) (ha : Bx (PA X (e :: es) t))
    (h1 : attributeBase o name X.env (eval o X.env) = eval o X.env := by rfl)
    (h2 : ((backTo cpos (starEach (e :: es) X.env)).all (fun x => !x.1) && (backToKw cpos (keywordEach [] X.env)).all (fun x => x.1.isSome) && decide ((e :: es).length + ([] : List Keyword).length + (if ([] : List Keyword).isEmpty then 0 else 1) < 30)) = true := by rfl)
    (h3 : (apos.endLine == cpos.line) = true := by rfl) (h4 : starEach (e :: es) X.env = (false, eval e X.env) :: starEach es X.env := by rfl) (h5 : (backTo cpos (starEach es X.env)).any (·.1) = false := by rfl) :
    Bx (PE X (.Call (.Attribute o name apos) (e :: es) [] cpos) (tBM X.K T r to t)) := ⟨pe_bm pa slot hty hm ho.1 ha.1 h1 h2 h3 h4 h5⟩
theorem bpss_nil : Bx (PSs X [] tNext) := ⟨pss_nil⟩
theorem bpss_cons (h1 : Bx (PS X st s)) (h2 : Bx (PSs X sts u)) : Bx (PSs X (st :: sts) (tSeq s u)) := ⟨pss_cons h1.1 h2.1⟩
theorem bpss_one (h1 : Bx (PS X st s)) : Bx (PSs X [st] s) := ⟨pss_one h1.1⟩
theorem bps_never : Bx (PS X st tNever) := ⟨ps_never⟩
theorem bps_expr (he : Bx (PE X e te)) (hs : swapsWith e none pos.line X.env = pure false := by rfl) : Bx (PS X (.Expr e pos) (tDrop te)) := ⟨ps_expr he.1 hs⟩
theorem bps_ret (he : Bx (PE X e te)) : Bx (PS X (.Return (some e) pos) (tRet te)) := ⟨ps_ret he.1⟩
theorem bps_if (hc : Bx (PT X c tA)) (ha : Bx (PSs X body s)) (hb : Bx (PSs X els u)) : Bx (PS X (.If c body els pos) (tIfS tA s u)) := ⟨ps_if hc.1 ha.1 hb.1⟩
theorem bpg_name {k : Nat} {x : Str} (hN : X.N.Nodup) (hi : X.N[k]? = some x) (hx : Loc X.env.scope x) (hf : X.fn x = true ∨ X.env.scope.names.lookup x = some .local := by first | exact .inl rfl | exact .inr rfl | assumption) : Bx (PG X (.Name x pos) (gName k)) := ⟨pg_name hN hi hx hf⟩
theorem bpgs_nil : Bx (PGs X [] gNil) := ⟨pgs_nil⟩
theorem bpgs_cons (h1 : Bx (PG X e g)) (h2 : Bx (PGs X es gs)) (hs : (assignEach (e :: es) X.env).map (·.2) = assign e X.env :: (assignEach es X.env).map (·.2) := by rfl) : Bx (PGs X (e :: es) (gCons g gs)) := ⟨pgs_cons h1.1 h2.1 hs⟩
theorem bpg_tup {k n : Nat} (hc : X.calm = true) (h : Bx (PGs X es gs)) (hn : (assignEach es X.env).length = n := by rfl) (hst : (assignEach es X.env).findIdx? (·.1) = none := by rfl) : Bx (PG X (.Tuple es k pos) (gTup X.K n gs)) := ⟨pg_tup hc h.1 hn hst⟩
theorem bpg_tupK {K : PySem.W.Frag} {k n : Nat} (hc : X.calm = true) (h : Bx (PGs X es gs)) (hK : X.K = K := by rfl) (hn : (assignEach es X.env).length = n := by rfl) (hst : (assignEach es X.env).findIdx? (·.1) = none := by rfl) : Bx (PG X (.Tuple es k pos) (gTup K n gs)) := ⟨pg_tupK hc h.1 hK hn hst⟩
theorem bpg_sub {tset : TSet} (ho : Bx (PE X o to)) (hi : Bx (PE X i ti)) (hs : PSet X tset)
    (ha : ∀ v, assign (.Subscript o i pos) X.env v = (do
      let ov ← holding [v] (eval o X.env)
      let iv ← holding [v, ov] (eval i X.env)
      standAt pos
      holding [v, ov, iv] (setItem ov iv v)
      release [v, ov, iv] []) := by intro _; rfl) : Bx (PG X (.Subscript o i pos) (gSub to ti tset)) := ⟨pg_sub ho.1 hi.1 hs ha⟩
theorem bps_asg (he : Bx (PE X e te)) (hg : Bx (PG X tg g)) (hs : swapsWithSole [tg] e pos.line X.env = pure false := by rfl) (hw : swappedStores [tg] e X.env = pure none := by rfl)
    (h1 : (assignEach [tg] X.env).map (·.2) = [assign tg X.env] := by rfl) : Bx (PS X (.Assign [tg] e pos) (tAsg te g)) := ⟨ps_asg he.1 hg.1 hs hw h1⟩
theorem bps_set {k : Nat} {x : Str} (hN : X.N.Nodup) (hi : X.N[k]? = some x) (hx : Loc X.env.scope x) (he : Bx (PE X e te)) (hs : swapsWith e (some (.Name x pos')) pos.line X.env = pure false := by rfl) (hf : X.fn x = true ∨ X.env.scope.names.lookup x = some .local := by first | exact .inl rfl | exact .inr rfl | assumption) :
    Bx (PS X (.Assign [.Name x pos'] e pos) (tAsg te (gName k))) := ⟨ps_set hN hi hx he.1 hs hf⟩
theorem bps_dput (hu : X.A.units + 1 < cLine) (ho : Bx (PE X o td)) (hi : Bx (PE X i ty)) (hv : Bx (PE X value tv)) (hs : swapsWith value (some (.Subscript o i pos')) pos.line X.env = pure false := by rfl) : Bx (PS X (.Assign [.Subscript o i pos'] value pos) (sDPut td ty tv)) := ⟨ps_dput hu ho.1 hi.1 hv.1 hs⟩
theorem bps_for (hp : PassesOwn (model X.prog X.w) X.A X.env X.xe) (hc : X.calm = true) (hi : Bx (PI X tg iter wi)) (hg : Bx (PG X tg g)) (hb : Bx (PSs X body tb')) (hs : ∀ x, foldedSetIterable iter X.env x = pure x := by intro _; rfl) : Bx (PS X (.For tg iter body [] pos) (tFor wi g tb')) := ⟨ps_for hp hc hi.1 hg.1 hb.1 hs⟩
theorem bpi_list (hl : Bx (PE X l tl)) : Bx (PI X tg l (iList X.K tl)) := ⟨pi_list hl.1⟩
theorem bpi_tup (hl : Bx (PE X l tl)) : Bx (PI X tg l (iTup X.K tl)) := ⟨pi_tup hl.1⟩
theorem bpi_range1 (hg : Gl X "range") (hm : X.mg "range" = none) (ha : Bx (PA X [a] t)) (hs : starEach [a] X.env = [(false, eval a X.env)] := by rfl) : Bx (PI X tg (.Call (.Name "range" p) [a] [] pos) (iRng1 t)) := ⟨pi_range1 hg hm ha.1 hs⟩
theorem bpi_enum {elts : List Expr} {k : Nat} {tp : Pos} (hg : Gl X "enumerate") (hm : X.mg "enumerate" = none) (ha : Bx (PA X [a] t)) (hs : starEach [a] X.env = [(false, eval a X.env)] := by rfl) : Bx (PI X (.Tuple elts k tp) (.Call (.Name "enumerate" p) [a] [] pos) (iEnum X.K t)) := ⟨pi_enum hg hm ha.1 hs⟩
theorem bpts_nil : Bx (PTs X [] tYes) := ⟨pts_nil⟩
theorem bpe_comp {ifs : List Expr} {scope : Scope} {N : List Str} {n : Nat} {cap : List Nat} (hc : X.calm = true) (B : Blk X scope N n cap) (hi : Bx (PI X tg iter wi)) (hk : KeepG n g)
    (hg : ∀ cl fp s H, Bx (PG (cxComp X N scope cl fp s H) tg g)) (ht : ∀ cl fp s H, Bx (PTs (cxComp X N scope cl fp s H) ifs tt)) (he : ∀ cl fp s H, Bx (PE (cxComp X N scope cl fp s H) elt te))
    (hs : ∀ x, foldedSetIterable iter X.env x = pure x := by intro _; rfl) : Bx (PE X (.ListComp elt [⟨tg, iter, ifs, 0⟩] scope pos) (tComp n cap wi g tt te)) :=
  ⟨pe_comp hc B hi.1 hk (fun cl fp s H => (hg cl fp s H).1) (fun cl fp s H => (ht cl fp s H).1) (fun cl fp s H => (he cl fp s H).1) hs⟩
theorem bps_setC {ifs : List Expr} {scope : Scope} {N : List Str} {n : Nat} {cap : List Nat} {k : Nat} {x : Str} (hc : X.calm = true) (B : Blk X scope N n cap) (hN : X.N.Nodup) (hi : X.N[k]? = some x) (hx : X.env.scope.names.lookup x = some .local) (hit : Bx (PI X tg iter wi)) (hk : KeepG n g)
    (hg : ∀ cl fp s H, Bx (PG (cxComp X N scope cl fp s H) tg g)) (ht : ∀ cl fp s H, Bx (PTs (cxComp X N scope cl fp s H) ifs tt)) (he : ∀ cl fp s H, Bx (PE (cxComp X N scope cl fp s H) elt te))
    (hsw : swapsWith (.ListComp elt [⟨tg, iter, ifs, 0⟩] scope pos) (some (.Name x pos')) spos.line X.env = pure true) (hs : ∀ x, foldedSetIterable iter X.env x = pure x := by intro _; rfl) :
    Bx (PS X (.Assign [.Name x pos'] (.ListComp elt [⟨tg, iter, ifs, 0⟩] scope pos) spos) (tAsg (tComp n cap wi g tt te) (gName k))) :=
  ⟨ps_setC hc B hN hi hx hit.1 hk (fun cl fp s H => (hg cl fp s H).1) (fun cl fp s H => (ht cl fp s H).1) (fun cl fp s H => (he cl fp s H).1) hsw hs⟩
end
section
variable {P : Program} {w : World} {K : PySem.W.Frag} {mg : Str → Option Value} {base : Heap}
theorem Fun.okB {x qual : Str} {st : Stmt} {f : Addr} {fd : FuncData} {N ps : List Str} {k : Nat} {sp : Sp} (F : Fun K x qual st f fd) (S : FnScope N ps (defScope st)) (len : ∀ vs H Q E, sp vs H Q E → vs.length = ps.length)
    (hbody : ∀ (cdv : Value) (A : Around) (outer : List Env) (s : Shared) (H : Hp) (vs : List V) (Q : VK) (E : XK), Room k (A.deeper (envOfC qual (defScope st) s.heap.objs.size f cdv)) → sp vs H Q E →
      ∃ t, Bx (PSs (cxOf CX0 P w K mg base N qual (defScope st) f cdv A outer s H E).nox (defBody st) t) ∧ t { nx := fun _ H' => Q .non H', rt := Q } (start N vs) H) : FnOk P w K mg base CX0 (k + 1) f fd ps sp :=
  F.ok S len fun cdv A outer s H vs Q E hr h => let ⟨t, a, b⟩ := hbody cdv A outer s H vs Q E hr h; ⟨t, a.1, b⟩
end
end L2
namespace L2
open PySem PySem.Spec PyProof.Rows
section
variable {X : Cx}
theorem bools_at {bs : List Bool} : ∀ {us : List Value} {j : Nat} {v : Value}, Vals (bs.map V.bl) us → us[j]? = some v → ∃ b, bs[j]? = some b ∧ v = .bool b := by
  intro us j v r h
  have hl := r.length
  have hj : j < us.length := (List.getElem?_eq_some_iff.mp h).1
  have hb : j < bs.length := by rw [List.length_map] at hl; omega
  obtain ⟨u, hu, ru⟩ := r.get (i := j) (x := .bl bs[j]) (by simp [hb])
  rw [h] at hu
  cases hu
  exact ⟨bs[j], by simp [hb], ru⟩
theorem all_range (bs : List Bool) : (List.range bs.length).all (fun j => (bs[j]?).getD true) = bs.all id := by
  rw [Bool.eq_iff_iff, List.all_eq_true, List.all_eq_true]
  constructor
  · intro h b hb
    obtain ⟨j, hj, e⟩ := List.mem_iff_getElem.mp hb
    have := h j (List.mem_range.mpr hj)
    rw [List.getElem?_eq_getElem hj] at this
    simpa [e] using this
  · intro h j hj
    have hj := List.mem_range.mp hj
    rw [List.getElem?_eq_getElem hj]
    exact h _ (List.getElem_mem hj)
theorem call_allL (hc : X.calm = true) : CallR X (.builtin "all") (fun xs H Q => ∃ (p : Addr) (bs : List Bool), xs = [.ref p] ∧ SqL X.K H p (bs.map V.bl) ∧ Q (.bl (bs.all id)) H) := by
  intro pins s σ H xs us Q I r ⟨p, bs, e, hq, q⟩
  subst e
  obtain ⟨u, rfl, rx⟩ := vals1 r
  cases rx
  obtain ⟨its, rv, pl, hz⟩ := I.list hq
  have hl : its.toArray.size = bs.length := by
    have := rv.length
    simpa using this.symm
  have hlt : p < s.heap.objs.size := by
    obtain ⟨o, ho, _⟩ := pl.isList
    exact Heap.lt_size ho
  refine call_all_walk (wpAny_pyIter_list pl.isList ?_)
  refine ⟨_, _, _, _, _, _, fun j => (bs[j]?).getD true, rfl, Walks.list (A := X.A.in1) (I.ok.hd hc) _ p (Nat.ne_of_lt hlt) its.toArray, ⟨⟨_, Heap.get?_push_size _ rfl, rfl, rfl⟩, pl.isList.at fun o e => Heap.get?_push_of_some _ e⟩, ?_, fun h' tk hk => ?_⟩
  · intro j v s' Q' E' hv hQ
    obtain ⟨b, hb, rfl⟩ := bools_at rv (show its[j]? = some v by simpa using hv)
    dsimp only at hQ
    rw [hb] at hQ
    exact wpAny_truthy_bool hQ
  · rw [hl, all_range]
    refine ⟨.bl _, H, I.kept (t' := tk) fun b o e => hk b o ?_ (Heap.get?_push_of_some _ e), rfl, q⟩
    intro z
    have : b = s.heap.objs.size := by simpa using z
    exact Nat.ne_of_lt (Heap.lt_size e) this
end
end L2
namespace L2
open PySem PySem.Spec PyProof.Rows
open PySem.W (Dat kqdP kqdPs kqdOk)

theorem same_upd {H : Hp} {p : Addr} (h : H p = none) (o : HO) : Same H (upd H p o) := fun b u q => by rw [upd_ne (ne_of_none q h)]; exact q
theorem Same.upd {H H' : Hp} (s : Same H H') {p : Addr} (h : H' p = none) (o : HO) : Same H (upd H' p o) := s.trans (same_upd h o)
theorem Same.write {H H' : Hp} (s : Same H H') {p : Addr} (h : H p = none) (o : HO) : Same H (L2.upd H' p o) := fun b u q => by rw [upd_ne (ne_of_none q h)]; exact s b u q
noncomputable def SameB (p : Addr) (H H' : Hp) : Prop := ∀ b o, b ≠ p → H b = some o → H' b = some o
theorem SameB.refl (p : Addr) (H : Hp) : SameB p H H := fun _ _ _ h => h
theorem Same.b {H H' : Hp} (s : Same H H') (p : Addr) : SameB p H H' := fun b o _ h => s b o h
theorem SameB.trans {p : Addr} {H H1 H2 : Hp} (a : SameB p H H1) (b : SameB p H1 H2) : SameB p H H2 := fun c o n h => b c o n (a c o n h)
theorem SameB.write {p : Addr} {H H1 : Hp} (a : SameB p H H1) (o : HO) : SameB p H (L2.upd H1 p o) := fun c u n h => by rw [upd_ne n]; exact a c u n h
theorem SameB.same {p : Addr} {G H H1 : Hp} (s : Same G H) (g : G p = none) (a : SameB p H H1) : Same G H1 := fun b o q => a b o (ne_of_none q g) (s b o q)

structure Bld (K : PySem.W.Frag) (H0 : Hp) (p : Addr) (xs : List V) (ds : List Dat) (H : Hp) : Prop where
  ex : ∃ G, Same H0 G ∧ Same G H ∧ G p = none ∧ Reps K G xs ds
  at_ : H p = some (.lst xs)
section
variable {K : PySem.W.Frag} {H0 H : Hp} {p T : Addr} {xs vs : List V} {ds es : List Dat}
theorem Bld.start (h : H0 p = none) : Bld K H0 p [] [] (upd H0 p (.lst [])) := ⟨⟨H0, Same.refl _, same_upd h _, h, .nil⟩, upd_same⟩
theorem Bld.same (b : Bld K H0 p xs ds H) : Same H0 H := by
  obtain ⟨G, a, c, _⟩ := b.ex
  exact a.trans c
theorem Bld.out (b : Bld K H0 p xs ds H) : H0 p = none := by
  obtain ⟨G, a, _, c, _⟩ := b.ex
  exact a.free c
theorem Bld.reps (b : Bld K H0 p xs ds H) : Reps K H xs ds := by
  obtain ⟨G, _, a, _, r⟩ := b.ex
  exact r.mono a
theorem Bld.len (b : Bld K H0 p xs ds H) : xs.length = ds.length := b.reps.length
theorem Bld.sq (b : Bld K H0 p xs ds H) : SqL K H p xs := .of b.at_
theorem Bld.rep (b : Bld K H0 p xs ds H) : Rep K H (.ref p) (.list ds) := .lst b.sq b.reps
theorem Bld.new (b : Bld K H0 p xs ds H) (h : H T = none) (o : HO) : Bld K H0 p xs ds (upd H T o) := by
  obtain ⟨G, a, c, n, r⟩ := b.ex
  exact ⟨⟨G, a, c.upd h o, n, r⟩, by rw [upd_ne (ne_of_none b.at_ h)]; exact b.at_⟩
theorem Bld.grow {H' : Hp} (b : Bld K H0 p xs ds H) (s : Same H H') : Bld K H0 p xs ds H' := by
  obtain ⟨G, a, c, n, r⟩ := b.ex
  exact ⟨⟨G, a, c.trans s, n, r⟩, s _ _ b.at_⟩
theorem Bld.other {q : Addr} {o : HO} (b : Bld K H0 p xs ds H) (hq : q ≠ p) (hG : ∀ G, Same H0 G → Same G H → G p = none → Reps K G xs ds → ∃ G', Same H0 G' ∧ Same G' H ∧ G' p = none ∧ G' q = none ∧ Reps K G' xs ds) : Bld K H0 p xs ds (upd H q o) := by
  obtain ⟨G, a, c, n, r⟩ := b.ex
  obtain ⟨G', a', c', n', nq, r'⟩ := hG G a c n r
  exact ⟨⟨G', a', c'.write nq o, n', r'⟩, by rw [upd_ne (Ne.symm hq)]; exact b.at_⟩
theorem Bld.push {v : V} {d : Dat} (b : Bld K H0 p xs ds H) (r : Rep K H0 v d) : Bld K H0 p (xs ++ [v]) (ds ++ [d]) (upd H p (.lst (xs ++ [v]))) := by
  obtain ⟨G, a, c, n, rs⟩ := b.ex
  exact ⟨⟨G, a, c.write n _, n, rs.snoc (r.mono a)⟩, upd_same⟩
theorem Bld.pushT (b : Bld K H0 p xs ds H) (h : H T = none) (r : Reps K H0 vs es) : Bld K H0 p (xs ++ [.ref T]) (ds ++ [.tuple es]) (upd (upd H T (.tup vs)) p (.lst (xs ++ [.ref T]))) := by
  obtain ⟨G, a, c, n, rs⟩ := b.ex
  have hT : G T = none := c.free h
  have pT : p ≠ T := ne_of_none b.at_ h
  have s1 : Same G (upd G T (.tup vs)) := same_upd hT _
  refine ⟨⟨upd G T (.tup vs), a.trans s1, fun x u q => ?_, by rw [upd_ne pT]; exact n, (rs.mono s1).snoc (.tup (.of upd_same) ((r.mono a).mono s1))⟩, upd_same⟩
  by_cases e : x = T
  · subst e
    rw [upd_same] at q
    rw [upd_ne (Ne.symm pT), upd_same]
    exact q
  · rw [upd_ne e] at q
    rw [upd_ne (ne_of_none q n), upd_ne e]
    exact c x u q
end
theorem big {n : Nat} (h : n ≤ 100000) : n < sizeLine := Nat.lt_of_le_of_lt h (by decide)
theorem bigE {n : Nat} (h : n ≤ 100000) : n ≤ sizeLine := Nat.le_of_lt (big h)
end L2
namespace L2
open PySem PySem.Spec PyProof.Rows
open PySem.W (Dat kqdP kqdPs kqdOk)
section
variable {X : Cx}
open Classical in
end
section
variable {X : Cx} {K : PySem.W.Frag}
end
section
variable {g : TG} {tt : TT} {te : TE} {n0 : Nat} {cap : List Nat} {σ : St} {Q : VK} {D : Addr} {H1 : Hp} {K : PySem.W.Frag}
end
end L2
namespace L2
open PySem PySem.Spec PyProof.Rows
open PySem.W (Dat kqdP kqdPs kqdOk)
structure Off (M : List Addr) (G H : Hp) : Prop where
  same : Same G H
  out : ∀ m ∈ M, G m = none
  there : ∀ m ∈ M, ∃ o, H m = some o
section
variable {M : List Addr} {G G1 G2 H H' : Hp} {T m : Addr} {o u : HO}
theorem Off.ne (f : Off M G H) (h : H T = none) : T ∉ M := fun z => by
  obtain ⟨o, e⟩ := f.there T z
  rw [h] at e
  cases e
theorem Off.ne' (f : Off M G H) (h : H T = none) (hm : m ∈ M) : m ≠ T := fun z => f.ne h (z ▸ hm)
theorem Off.new (f : Off M G H) (h : H T = none) (o : HO) : Off M G (upd H T o) := ⟨f.same.upd h o, f.out, fun m hm => by
  obtain ⟨u, e⟩ := f.there m hm
  exact ⟨u, same_upd h o _ _ e⟩⟩
theorem Off.grow (f : Off M G H) (s : Same H H') : Off M G H' := ⟨f.same.trans s, f.out, fun m hm => by
  obtain ⟨u, e⟩ := f.there m hm
  exact ⟨u, s _ _ e⟩⟩
theorem Off.add (f : Off M G H) (h : H T = none) (o : HO) : Same G (upd G T o) := same_upd (f.same.free h) o
theorem Off.lay (f : Off M G H) (h : H T = none) (o : HO) : Off M (upd G T o) (upd H T o) := ⟨fun b v q => by
    by_cases e : b = T
    · subst e
      rw [upd_same] at q ⊢
      exact q
    · rw [upd_ne e] at q ⊢
      exact f.same b v q,
  fun m hm => by rw [upd_ne (f.ne' h hm)]; exact f.out m hm, (f.new h o).there⟩
theorem Off.write (f : Off M G H) (hm : m ∈ M) (o : HO) : Off M G (upd H m o) := ⟨f.same.write (f.out m hm) o, f.out, fun k hk => by
  by_cases e : k = m
  · subst e
    exact ⟨o, upd_same⟩
  · obtain ⟨u, e'⟩ := f.there k hk
    exact ⟨u, by rw [upd_ne e]; exact e'⟩⟩
theorem Off.sb (f : Off M G H) (hm : m ∈ M) (s : SameB m H H') (e : H' m = some o) : Off M G H' := ⟨s.same f.same (f.out m hm), f.out, fun k hk => by
  by_cases ek : k = m
  · subst ek
    exact ⟨o, e⟩
  · obtain ⟨u, e'⟩ := f.there k hk
    exact ⟨u, s k u ek e'⟩⟩
theorem Off.drop (f : Off (m :: M) G H) : Off M G H := ⟨f.same, fun k hk => f.out k (.tail _ hk), fun k hk => f.there k (.tail _ hk)⟩
theorem Off.take {a : Addr} (f : Off M G H) (e : H a = some o) (hn : a ∉ M) : Off M (upd G a o) H ∧ Same G (upd G a o) := by
  refine ⟨⟨fun b v q => ?_, fun k hk => ?_, f.there⟩, fun b v q => ?_⟩
  · by_cases eb : b = a
    · subst eb
      rw [upd_same] at q
      rw [e]
      exact q
    · rw [upd_ne eb] at q
      exact f.same b v q
  · have : k ≠ a := fun z => hn (z ▸ hk)
    rw [upd_ne this]
    exact f.out k hk
  · by_cases eb : b = a
    · subst eb
      have := f.same _ _ q
      rw [e] at this
      rw [upd_same]
      exact this
    · rw [upd_ne eb]
      exact q
theorem Off.join (f : Off M G1 H) (g : Off M G2 H) : ∃ G, Off M G H ∧ Same G1 G ∧ Same G2 G := by
  refine ⟨fun b => match G1 b with | some o => some o | none => G2 b, ⟨fun b v q => ?_, fun m hm => ?_, f.there⟩, fun b v q => ?_, fun b v q => ?_⟩
  · cases e : G1 b with
    | some o => simp only [e] at q; rw [← q]; exact f.same b o e
    | none => simp only [e] at q; exact g.same b v q
  · simp only [f.out m hm]
    exact g.out m hm
  · simp only [q]
  · cases e : G1 b with
    | some o =>
      have := f.same b o e
      rw [g.same b v q] at this
      simp only [e]
      exact this.symm
    | none => simp only [e]; exact q
theorem Off.start {p : Addr} (h : H p = none) (o : HO) : Off [p] H (upd H p o) := ⟨same_upd h o, fun m hm => by rw [List.mem_singleton.mp hm]; exact h, fun m hm => by rw [List.mem_singleton.mp hm]; exact ⟨o, upd_same⟩⟩
theorem SameB.new {p : Addr} (a : SameB p H H') (h : H' T = none) (o : HO) : SameB p H (L2.upd H' T o) := a.trans ((same_upd h o).b p)
theorem SameB.free {p : Addr} (a : SameB p H H') (h : H' T = none) (hp : T ≠ p) : H T = none := by
  cases e : H T with
  | none => rfl
  | some u => rw [a T u hp e] at h; cases h
end
end L2
namespace L2
open PySem PySem.Spec PyProof.Rows
noncomputable def mergeT (kvs more : List (List Key × V)) : List (List Key × V) := more.foldl (fun acc kv => putK acc kv.1 kv.2) kvs
noncomputable def storeAll (acc xs : List (List Key × Addr × Value)) : List (List Key × Addr × Value) := xs.foldl (fun acc x => storedH acc x.1 x.2.1 x.2.2) acc
section
variable {prog : Program} {w : World} {A : Around} {E : Value → Shared → Prop} {s : Shared}
end
section
variable {prog : Program} {w : World} {A : Around} {R : Result → Shared → Prop}
end
section
variable {prog : Program} {w : World} {A : Around} {E : Value → Shared → Prop} {s : Shared}
end
theorem KT.merge {H : Hp} : ∀ {more : List (List Key × V)} {xs : List (List Key × Addr × Value)} {kvs : List (List Key × V)} {ys : List (List Key × Addr × Value)}, KT H more xs → KT H kvs ys → KT H (mergeT kvs more) (storeAll ys xs)
  | _, _, _, _, .nil, q => q
  | _, _, kvs, ys, .cons (a := p) (b := x) h t, q => by
    have e : KT H (putK kvs p.1 p.2) (storedH ys x.1 x.2.1 x.2.2) := by
      have := q.put p.1 h.2.1 h.2.2
      rw [← h.1]; exact this
    have z := KT.merge (kvs := putK kvs p.1 p.2) (ys := storedH ys x.1 x.2.1 x.2.2) t e
    exact z
section
variable {X : Cx}
end
end L2
namespace L2
open PySem PySem.Spec PyProof.Rows
noncomputable def tRev (K : PySem.W.Frag) (te tk : TE) : TE := fun σ H Q => te σ H fun x H1 => tk σ H1 fun y H2 => ∃ a xs, x = .ref a ∧ y = .int (-1) ∧ SqL K H2 a xs ∧ ∀ p, H2 p = none → Q (.ref p) (upd H2 p (.lst xs.reverse))
theorem Vals.rev {xs : List V} {us : List Value} (r : Vals xs us) : Vals xs.reverse us.reverse := by
  induction r with
  | nil => exact .nil
  | @cons x u xs us h t ih =>
    rw [List.reverse_cons, List.reverse_cons]
    exact ih.append (.cons h .nil)
section
variable {X : Cx} {e k : Expr} {te tk : TE} {pos p2 : Pos}
theorem pe_rev (he : PE X e te) (hk : PE X k tk) : PE X (.Subscript e (.Slice none none (some k) p2) pos) (tRev X.K te tk) := by
  intro pins s σ H Q I h
  refine Subscript_ (thn (he pins s σ H _ I h) fun v s1 ⟨x, H1, I1, r1, q1⟩ => ?_)
  refine wpAny_Slice ?_
  rw [evalPart_none]
  refine wpAny_pure (wpAny_pure ?_)
  rw [evalPart_some]
  refine thn (hk pins s1 σ H1 _ I1 q1) fun u s2 ⟨y, H2, I2, r2, a, xs, ex, ey, hx, q⟩ => ?_
  subst ex ey
  cases (show v = Value.ref a from r1)
  obtain ⟨t, rfl⟩ := (show ∃ t, u = Value.int (-1) t from r2)
  have I4 : Inv X pins σ H2 { s2 with heap := s2.heap.push { cls := .type "slice", data := .fields #[.none, .none, .int (-1) t] } } := I2.kept (t' := s2.toks) fun b ob q => Heap.get?_push_of_some _ q
  show wpAny (model X.prog X.w) X.A (subscriptTail e (.Slice none none (some k) p2) (.ref a) (.ref s2.heap.objs.size)) (EP X pins σ Q) X.xe { s2 with heap := s2.heap.push { cls := .type "slice", data := .fields #[.none, .none, .int (-1) t] } }
  obtain ⟨its, r, ht, hz⟩ := I4.list hx
  have hlen := r.length
  refine tail_any (ops := [.ref a, .ref s2.heap.objs.size]) ht.isList.typeIs slot_list_getitem.lookup ?_ (by with_unfolding_all rfl)
  refine wpAny_getItem_list_slice ht.isList (Heap.IsSliceOf.new ..) .none .none (.int (-1) t) (by simp) ?_ (by rw [List.size_toArray] <;> omega)
  rw [PySem.W.krv_pick]
  refine ⟨.ref _, _, I4.laid (a := _) (t' := s2.toks) (o := .lst xs.reverse) (fun b ob q => Heap.get?_push_of_some _ q) (Nat.le_refl _) ?_, rfl, q _ (I4.hok.fresh (Nat.le_refl _))⟩
  exact ⟨by rw [List.length_reverse]; exact hz, its.reverse, 0, r.rev, Heap.get?_push_size _ rfl⟩
theorem bpe_rev (he : Bx (PE X e te)) (hk : Bx (PE X k tk)) : Bx (PE X (.Subscript e (.Slice none none (some k) p2) pos) (tRev X.K te tk)) := ⟨pe_rev he.1 hk.1⟩
end
end L2
namespace L2
open PySem PySem.Spec PyProof.Rows
section
variable {prog : Program} {w : World} {A : Around} {E : Value → Shared → Prop} {s : Shared}
end
section
variable {X : Cx} {pos : Pos}
end
end L2
namespace L2
open PySem PySem.Spec PyProof.Rows
noncomputable def rCatS (K : PySem.W.Frag) : R2 := fun x y H Q => ∃ l b xs zs, x = .ref l ∧ y = .ref b ∧ SqL K H l xs ∧ SqL K H b zs ∧ xs.length + zs.length ≤ sizeLine ∧ ∀ p, H p = none → Q (.ref p) (upd H p (.lst (xs ++ zs)))
section
variable {X : Cx}
theorem op_catS : OpR X (binaryOp .Add) (rCatS X.K) := by
  intro pins s σ H x y v u Q I rx ry h
  obtain ⟨l, b, xs, zs, rfl, rfl, hH, hB, hz, q⟩ := h
  cases rx
  cases ry
  obtain ⟨its, r, ⟨⟨cls, dd, data, sl⟩, n, ho, hc, hd0, hd⟩, _⟩ := I.list hH
  obtain ⟨its2, r2, ⟨⟨cls2, dd2, data2, sl2⟩, n2, ho2, hc2, hd02, hd2⟩, _⟩ := I.list hB
  simp only at hc hd hc2 hd2
  subst hc hd hc2 hd2
  have l1 := r.length
  have l2 := r2.length
  have ea : its.toArray ++ its2.toArray = (its ++ its2).toArray := by simp
  refine concat_meets ⟨_, ho, rfl⟩ ⟨_, ho2, rfl⟩ noFill_list_add seq_list_add PySem.F.slot_list_add PySem.F.entry_list_add (PySem.F.args_list_add_2 _ _) (list_addW l b its.toArray its2.toArray n n2 dd dd2 sl sl2 (by rw [List.size_toArray, List.size_toArray]; omega)) ⟨ho, ho2, ?_⟩
  rw [ea]
  exact ⟨.ref _, _, I.lnew (t' := s.toks) (r.append r2) (by rw [List.length_append]; omega), rfl, q _ I.fresh⟩
end
end L2
namespace L2
open PySem PySem.Spec PyProof.Rows
noncomputable def TabK (K : PySem.W.Frag) (a : Addr) (D : List (Str × KTD.Dat)) : Prop := KTD.tabLook (KTD.datLooks fun b => K.lookup b) (fun b => K.lookup b) a D = true
section
variable {prog : Program} {w : World} {A : Around} {E : Value → Shared → Prop} {s : Shared}
theorem dictGet_tab {δ : Type} {R : δ → Value → Prop} {D : List (Str × δ)} {a : Addr} {k : Str} {tk : Tok} {d0 : δ} {Q : Option Value → Shared → Prop} (T : KTD.TabOf R s.heap a D) (hat : KTD.datumAt k D = some d0)
    (good : ∀ v, R d0 v → Q (some v) { s with toks := s.toks + 1 }) : wpAny (model prog w) A (dictGet a (.str k tk)) Q E s := by
  obtain ⟨_, ob, es, ep, e1, _, e2, rows⟩ := T
  obtain ⟨v0, fv, rv⟩ := rows.find_some hat
  have exs : (es.all fun en => isExactStrKey en.key) = true := by
    obtain ⟨l⟩ := es
    simpa using rows.exact
  have fb : findBy (fun x u => u.isStr x) es k = some v0 := by
    rw [← fv]
    obtain ⟨l⟩ := es
    simp [findBy]
  unfold dictGet
  try with_reducible refine wpAny_holding ?_
  refine wpAny_bind (wpAny_pyHash_str ?_)
  refine wpAny_bind (KTD.kt_dictFind_strs (s := { s with toks := s.toks + 1 }) e1 e2 exs ?_)
  rw [findBy_of_findIdx?] at fb
  cases hi : es.findIdx? fun en => en.key.isStr k with
  | none => rw [hi] at fb; cases fb
  | some i =>
    rw [hi] at fb
    have fb' : (es[i]?).map (·.val) = some v0 := fb
    refine wpAny_bind (wpAny_dictEntries (s := { s with toks := s.toks + 1 }) e1 e2 (wpAny_pure ?_))
    rw [fb']
    exact good v0 rv
end
theorem flats_ints : ∀ {ns : List Int} {vs : List Value}, KTD.flatsLook (ns.map PyData.int) vs = true → Vals (ns.map V.int) vs
  | [], [], _ => .nil
  | n :: ns, v :: vs, h => by
    have h' : (KTD.flatLooks (PyData.int n) v && KTD.flatsLook (ns.map PyData.int) vs) = true := h
    rw [Bool.and_eq_true] at h'
    refine .cons ?_ (flats_ints h'.2)
    have h1 := h'.1
    cases v with
    | int j t =>
      have : n = j := by simpa [KTD.flatLooks] using h1
      subst this
      exact ⟨t, rfl⟩
    | _ => simp [KTD.flatLooks] at h1
  | [], _ :: _, h => by simp [KTD.flatsLook] at h
  | _ :: _, [], h => by simp [KTD.flatsLook] at h
theorem tup_look {K : PySem.W.Frag} {H : Hp} {ns : List Int} {v : Value} (hz : ns.length ≤ 1000) (h : KTD.datLooks (fun b => K.lookup b) (.tup (ns.map PyData.int)) v = true) : ∃ p, v = .ref p ∧ SqT K H p (ns.map V.int) := by
  cases v with
  | ref p =>
    refine ⟨p, rfl, .inr ?_⟩
    simp only [KTD.datLooks] at h
    cases e : K.lookup p with
    | none => rw [e] at h; cases h
    | some o =>
      rw [e] at h
      simp only [Bool.and_eq_true] at h
      obtain ⟨h1, h2⟩ := h
      cases ed : o.data with
      | seq vs n =>
        rw [ed] at h2
        have rv := flats_ints h2
        have lv := rv.length
        rw [List.length_map] at lv
        have lz : vs.size = ns.length := by rw [lv, Array.length_toList]
        have line : (1000 : Nat) ≤ sizeLine := by decide
        exact ⟨o, vs, n, rfl, beq_iff_eq.mp h1, ed, by omega, rv⟩
      | _ => rw [ed] at h2; cases h2
  | _ => simp [KTD.datLooks] at h
section
variable {X : Cx}
theorem TabK.at {pins : List (Addr × Obj)} {σ : St} {H : Hp} {s : Shared} {a : Addr} {D : List (Str × KTD.Dat)} (I : Inv X pins σ H s) (h : TabK X.K a D) : KTD.TabOf (fun d v => KTD.datLooks (fun b => X.K.lookup b) d v = true) s.heap a D :=
  KTD.tab_of_look (fun _ _ z => z) (fun b o q => I.kIn b o q) h
theorem TabK.here {pins : List (Addr × Obj)} {σ : St} {H : Hp} {s : Shared} {a : Addr} {D : List (Str × KTD.Dat)} (I : Inv X pins σ H s) (h : TabK X.K a D) : KTD.Here s.heap s.heap a D :=
  ⟨PySem.W.kt_text_in I.kIn h, fun _ _ q => q⟩
noncomputable def rInTab (K : PySem.W.Frag) (neg : Bool) : R2 := fun x y H Q => ∃ k a D, x = .str k ∧ y = .ref a ∧ TabK K a D ∧ Q (.bl (if neg then !KTD.inKeys k D else KTD.inKeys k D)) H
theorem op_inTab : OpR X (compareOp .In) (rInTab X.K false) := by
  intro pins s σ H x y v u Q I rx ry ⟨k, a, D, e1, e2, h, q⟩
  subst e1 e2
  obtain ⟨t, rfl⟩ := rx
  cases ry
  exact KTD.in_text (h.here I) ⟨.bl _, H, I.tok _, rfl, q⟩
noncomputable def rIxTab (K : PySem.W.Frag) : R2 := fun x y H Q => ∃ (a : Addr) (k : Str) (D : List (Str × KTD.Dat)) (ns : List Int), x = .ref a ∧ y = .str k ∧ TabK K a D ∧ KTD.datumAt k D = some (.tup (ns.map PyData.int)) ∧ ns.length ≤ 1000 ∧ ∀ p, SqT K H p (ns.map V.int) → Q (.ref p) H
theorem ix_tab : IxR X (rIxTab X.K) := by
  intro value slice pins s σ H x y v u Q I rx ry ⟨a, k, D, ns, e1, e2, h, hat, hz, q⟩ hs
  subst e1 e2
  cases (show v = Value.ref a from rx)
  obtain ⟨t, rfl⟩ := (show ∃ t, u = Value.str k t from ry)
  have hT := (h.here I).typeIs
  refine tail_any (ops := [.ref a, .str k t]) hT PySem.F.slot_dict_getitem.lookup ?_ hs
  unfold getItem
  try with_reducible refine wpAny_holding ?_
  refine wpAny_bind (wpAny_sequenceKey hT (by decide) ?_)
  refine wpAny_bind (wpAny_callSpecial?_slot (name := Str.ofString "__getitem__") hT slot_dict_getitem (wpAny_call_entry slot_dict_getitem hT entry_dict_getitem ?_ (args_dict_getitem _ _)))
  show wpAny _ _ (dictGet a (.str k t) >>= _) _ _ s
  refine wpAny_bind (dictGet_tab (h.at I) hat fun v hv => ?_)
  obtain ⟨p, rfl, hp⟩ := tup_look (H := H) hz hv
  exact wpAny_pure ⟨_, rfl, wpAny_pure ⟨.ref p, H, I.tok _, rfl, q p hp⟩⟩
end
end L2
namespace My
open PySem L2
open PySem.W (Dat kqdP kqdPs kqdOk)

structure Works where
  ins : Int
  gates : List (Str × List Int)
  outs : List Int
noncomputable def legsOk (kind : Str) (n : Nat) : Prop := ((kind = "and" ∨ kind = "or" ∨ kind = "odd") ∧ 2 ≤ n ∧ n ≤ 4) ∨ (kind = "not" ∧ n = 1) ∨ (kind = "choose" ∧ n = 3) ∨ ((kind = "zero" ∨ kind = "one") ∧ n = 0)
structure WF (most : Nat) (w : Works) : Prop where
  i1 : 1 ≤ w.ins
  i6 : w.ins ≤ 6
  few : w.gates.length ≤ most
  legs : ∀ (k : Nat) g, w.gates[k]? = some g → legsOk g.1 g.2.length ∧ ∀ l ∈ g.2, 0 ≤ l ∧ l < w.ins + k
  o1 : 1 ≤ w.outs.length
  o3 : w.outs.length ≤ most + 20
  outs : ∀ o ∈ w.outs, 0 ≤ o ∧ o < w.ins + w.gates.length
noncomputable def gateD (g : Str × List Int) : Dat := .tuple [.str g.1, .tuple (g.2.map .int)]
noncomputable def worksD (w : Works) : Dat := .tuple [.int w.ins, .list (w.gates.map gateD), .list (w.outs.map .int)]

theorem legsOk.le {k : Str} {n : Nat} (h : legsOk k n) : n ≤ 4 := by
  unfold legsOk at h
  omega

noncomputable def wireF (i b : Int) : Dat := .tuple [.str "wire", .int i, .int b]
noncomputable def legF (k i b : Int) : Dat := .tuple [.str "leg", .int k, .int i, .int b]
noncomputable def wiresF : Nat → List Dat
  | 0 => []
  | n + 1 => wiresF n ++ [wireF n 0, wireF n 1]
noncomputable def legsF (k : Int) : Nat → List Dat
  | 0 => []
  | n + 1 => legsF k n ++ [legF k n 0, legF k n 1]
noncomputable def gatesF (gs : List (Str × List Int)) : Nat → List Dat
  | 0 => []
  | n + 1 => gatesF gs n ++ legsF n ((gs[n]?.map fun g => g.2.length).getD 0)
noncomputable def faultsD (w : Works) : List Dat := wiresF (w.ins.toNat + w.gates.length) ++ gatesF w.gates w.gates.length

noncomputable def wireP (i : Int) : List Dat := [.str "wire", .int i]
noncomputable def legP (k i : Int) : List Dat := [.str "leg", .int k, .int i]
noncomputable def wiresP : Nat → List (List Dat)
  | 0 => []
  | n + 1 => wiresP n ++ [wireP n]
noncomputable def legsP (k : Int) : Nat → List (List Dat)
  | 0 => []
  | n + 1 => legsP k n ++ [legP k n]
noncomputable def gatesP (gs : List (Str × List Int)) : Nat → List (List Dat)
  | 0 => []
  | n + 1 => gatesP gs n ++ legsP n ((gs[n]?.map fun g => g.2.length).getD 0)
noncomputable def twice (ps : List (List Dat)) : List Dat := ps.flatMap fun p => [.tuple (p ++ [.int 0]), .tuple (p ++ [.int 1])]
theorem twice_append (a b : List (List Dat)) : twice (a ++ b) = twice a ++ twice b := by unfold twice; rw [List.flatMap_append]
theorem twice_one (p : List Dat) : twice [p] = [.tuple (p ++ [.int 0]), .tuple (p ++ [.int 1])] := by unfold twice; simp
theorem twice_wires : ∀ n, twice (wiresP n) = wiresF n
  | 0 => rfl
  | n + 1 => by rw [wiresP, twice_append, twice_wires n, twice_one, wiresF]; rfl
theorem twice_legs (k : Int) : ∀ n, twice (legsP k n) = legsF k n
  | 0 => rfl
  | n + 1 => by rw [legsP, twice_append, twice_legs k n, twice_one, legsF]; rfl
theorem twice_gates (gs : List (Str × List Int)) : ∀ n, twice (gatesP gs n) = gatesF gs n
  | 0 => rfl
  | n + 1 => by rw [gatesP, twice_append, twice_gates gs n, twice_legs, gatesF]
noncomputable def placesD (w : Works) : List (List Dat) := wiresP (w.ins.toNat + w.gates.length) ++ gatesP w.gates w.gates.length
theorem twice_places (w : Works) : twice (placesD w) = faultsD w := by unfold placesD faultsD; rw [twice_append, twice_wires, twice_gates]

theorem wiresF_len : ∀ n, (wiresF n).length = 2 * n
  | 0 => rfl
  | n + 1 => by rw [wiresF, List.length_append, wiresF_len n]; simp; omega
theorem wiresP_len : ∀ n, (wiresP n).length = n
  | 0 => rfl
  | n + 1 => by rw [wiresP, List.length_append, wiresP_len n]; simp
theorem legsP_len (k : Int) : ∀ n, (legsP k n).length = n
  | 0 => rfl
  | n + 1 => by rw [legsP, List.length_append, legsP_len k n]; simp
theorem legsF_len (k : Int) : ∀ n, (legsF k n).length = 2 * n
  | 0 => rfl
  | n + 1 => by rw [legsF, List.length_append, legsF_len k n]; simp; omega
theorem few_legs {m : Nat} {w : Works} (h : WF m w) (n : Nat) : (w.gates[n]?.map fun g => g.2.length).getD 0 ≤ 4 := by
  cases e : w.gates[n]? with
  | none => simp
  | some g => simpa using (h.legs n g e).1.le
theorem gatesP_len {m : Nat} {w : Works} (h : WF m w) : ∀ n, (gatesP w.gates n).length ≤ 4 * n
  | 0 => Nat.zero_le _
  | n + 1 => by
    have := gatesP_len h n
    have := few_legs h n
    rw [gatesP, List.length_append, legsP_len]
    omega
theorem gatesF_len {m : Nat} {w : Works} (h : WF m w) : ∀ n, (gatesF w.gates n).length ≤ 8 * n
  | 0 => Nat.zero_le _
  | n + 1 => by
    have := gatesF_len h n
    have := few_legs h n
    rw [gatesF, List.length_append, legsF_len]
    omega
theorem twice_len : ∀ ps : List (List Dat), (twice ps).length = 2 * ps.length
  | [] => rfl
  | p :: r => by
    show (twice ([p] ++ r)).length = _
    rw [twice_append, twice_one, List.length_append, twice_len r]
    simp
    omega

theorem wiresP_mem : ∀ n p, p ∈ wiresP n → ∃ i, p = wireP i
  | 0, p, h => nomatch h
  | n + 1, p, h => by
    rw [wiresP] at h
    rcases List.mem_append.mp h with h | h
    · exact wiresP_mem n p h
    · exact ⟨_, List.mem_singleton.mp h⟩
theorem legsP_mem (k : Int) : ∀ n p, p ∈ legsP k n → ∃ i, p = legP k i
  | 0, p, h => nomatch h
  | n + 1, p, h => by
    rw [legsP] at h
    rcases List.mem_append.mp h with h | h
    · exact legsP_mem k n p h
    · exact ⟨_, List.mem_singleton.mp h⟩
theorem gatesP_mem (gs : List (Str × List Int)) : ∀ n p, p ∈ gatesP gs n → ∃ k i, p = legP k i
  | 0, p, h => nomatch h
  | n + 1, p, h => by
    rw [gatesP] at h
    rcases List.mem_append.mp h with h | h
    · exact gatesP_mem gs n p h
    · obtain ⟨i, e⟩ := legsP_mem _ _ p h
      exact ⟨_, i, e⟩
theorem places_mem {w : Works} {p : List Dat} (h : p ∈ placesD w) : (∃ i, p = wireP i) ∨ ∃ k i, p = legP k i := by
  unfold placesD at h
  rcases List.mem_append.mp h with h | h
  · exact .inl (wiresP_mem _ p h)
  · exact .inr (gatesP_mem _ _ p h)
theorem places_ne {w : Works} {i : Nat} (h : (placesD w)[i]? = some []) : False := by
  rcases places_mem (List.mem_of_getElem? h) with ⟨_, e⟩ | ⟨_, _, e⟩ <;> cases e
theorem places_le {w : Works} {i : Nat} {p : List Dat} (h : (placesD w)[i]? = some p) : p.length ≤ 3 := by
  rcases places_mem (List.mem_of_getElem? h) with ⟨_, e⟩ | ⟨_, _, e⟩ <;> (rw [e]; simp [wireP, legP])
theorem ok_ints (n : Nat) (ns : List Int) : (ns.map Dat.int).all (kqdOk n) = true := by
  refine List.all_eq_true.mpr fun d h => ?_
  obtain ⟨i, _, rfl⟩ := List.mem_map.mp h
  cases n <;> rfl
theorem ok_kind {x : Str} {n : Nat} (h : legsOk x n) : PyData.strOk x = true := by
  rcases h with ⟨h | h | h, _⟩ | ⟨h, _⟩ | ⟨h, _⟩ | ⟨h | h, _⟩ <;> (rw [h]; decide +kernel)
theorem ok_gate {g : Str × List Int} {n : Nat} (h : legsOk g.1 n) : kqdOk 6 (gateD g) = true := by
  show (PyData.strOk g.1 && ((g.2.map Dat.int).all (kqdOk 4) && true)) = true
  rw [ok_kind h, ok_ints]
  rfl
theorem ok_works {m : Nat} {w : Works} (h : WF m w) : kqdOk 8 (worksD w) = true := by
  show (true && ((w.gates.map gateD).all (kqdOk 6) && ((w.outs.map Dat.int).all (kqdOk 6) && true))) = true
  have e : (w.gates.map gateD).all (kqdOk 6) = true := List.all_eq_true.mpr fun d hd => by
    obtain ⟨g, hg, rfl⟩ := List.mem_map.mp hd
    obtain ⟨i, hi⟩ := List.getElem?_of_mem hg
    exact ok_gate (h.legs i g hi).1
  rw [e, ok_ints]
  rfl
theorem gates_at {K : PySem.W.Frag} {H : Hp} {w : Works} {x : V} (h : Rep K H x (worksD w)) :
    ∃ a ga oa gs os, x = .ref a ∧ SqT K H a [.int w.ins, .ref ga, .ref oa] ∧ SqL K H ga gs ∧ SqL K H oa os ∧ Reps K H gs (w.gates.map gateD) ∧ Reps K H os (w.outs.map .int) := by
  unfold worksD at h
  cases h with
  | tup ha r =>
    cases r with
    | cons r1 r =>
      cases r with
      | cons r2 r =>
        cases r with
        | cons r3 r =>
          cases r
          cases r1
          cases r2 with
          | lst hg rg =>
            cases r3 with
            | lst ho ro => exact ⟨_, _, _, _, _, rfl, ha, hg, ho, rg, ro⟩
theorem gate_at {K : PySem.W.Frag} {H : Hp} {g : Str × List Int} {x : V} (h : Rep K H x (gateD g)) :
    ∃ a la, x = .ref a ∧ SqT K H a [.str g.1, .ref la] ∧ SqT K H la (g.2.map V.int) := by
  unfold gateD at h
  cases h with
  | tup ha r =>
    cases r with
    | cons r1 r =>
      cases r with
      | cons r2 r =>
        cases r
        cases r1
        cases r2 with
        | tup hl rl =>
          have e : ∀ (xs : List V) (ns : List Int), Reps K H xs (ns.map Dat.int) → xs = ns.map V.int := by
            intro xs ns
            induction ns generalizing xs with
            | nil => intro z; cases z; rfl
            | cons m r ih =>
              intro z
              cases z with
              | cons z1 z2 =>
                cases z1
                rw [ih _ z2]
                rfl
          rw [e _ _ rl] at hl
          exact ⟨_, _, rfl, ha, hl⟩
end My
namespace My
open PySem L2
noncomputable def Bits (ns : List Int) : Prop := ∀ n ∈ ns, n = 0 ∨ n = 1
noncomputable def gateV (x : Str) (ns : List Int) : Int :=
  if x = "and" then (if ns.all (· == 1) = true then 1 else 0)
  else if x = "or" then (if ns.any (· == 1) = true then 1 else 0)
  else if x = "odd" then ns.sum % 2
  else if x = "not" then 1 - ns.getD 0 0
  else if x = "choose" then (if ns.getD 0 0 = 1 then ns.getD 1 0 else ns.getD 2 0)
  else if x = "one" then 1 else 0
theorem n_oa : ("or" : Str) ≠ "and" := by decide +kernel
theorem n_da : ("odd" : Str) ≠ "and" := by decide +kernel
theorem n_do : ("odd" : Str) ≠ "or" := by decide +kernel
theorem n_na : ("not" : Str) ≠ "and" := by decide +kernel
theorem n_no : ("not" : Str) ≠ "or" := by decide +kernel
theorem n_nd : ("not" : Str) ≠ "odd" := by decide +kernel
theorem n_ca : ("choose" : Str) ≠ "and" := by decide +kernel
theorem n_co : ("choose" : Str) ≠ "or" := by decide +kernel
theorem n_cd : ("choose" : Str) ≠ "odd" := by decide +kernel
theorem n_cn : ("choose" : Str) ≠ "not" := by decide +kernel
theorem n_za : ("zero" : Str) ≠ "and" := by decide +kernel
theorem n_zo : ("zero" : Str) ≠ "or" := by decide +kernel
theorem n_zd : ("zero" : Str) ≠ "odd" := by decide +kernel
theorem n_zn : ("zero" : Str) ≠ "not" := by decide +kernel
theorem n_zc : ("zero" : Str) ≠ "choose" := by decide +kernel
theorem n_z1 : ("zero" : Str) ≠ "one" := by decide +kernel
theorem n_1a : ("one" : Str) ≠ "and" := by decide +kernel
theorem n_1o : ("one" : Str) ≠ "or" := by decide +kernel
theorem n_1d : ("one" : Str) ≠ "odd" := by decide +kernel
theorem n_1n : ("one" : Str) ≠ "not" := by decide +kernel
theorem n_1c : ("one" : Str) ≠ "choose" := by decide +kernel
theorem gv_and (ns : List Int) : gateV "and" ns = if ns.all (· == 1) = true then 1 else 0 := by unfold gateV; rw [if_pos rfl]
theorem gv_or (ns : List Int) : gateV "or" ns = if ns.any (· == 1) = true then 1 else 0 := by unfold gateV; rw [if_neg n_oa, if_pos rfl]
theorem gv_odd (ns : List Int) : gateV "odd" ns = ns.sum % 2 := by unfold gateV; rw [if_neg n_da, if_neg n_do, if_pos rfl]
theorem gv_not (ns : List Int) : gateV "not" ns = 1 - ns.getD 0 0 := by unfold gateV; rw [if_neg n_na, if_neg n_no, if_neg n_nd, if_pos rfl]
theorem gv_choose (ns : List Int) : gateV "choose" ns = if ns.getD 0 0 = 1 then ns.getD 1 0 else ns.getD 2 0 := by unfold gateV; rw [if_neg n_ca, if_neg n_co, if_neg n_cd, if_neg n_cn, if_pos rfl]
theorem gv_zero (ns : List Int) : gateV "zero" ns = 0 := by unfold gateV; rw [if_neg n_za, if_neg n_zo, if_neg n_zd, if_neg n_zn, if_neg n_zc, if_neg n_z1]
theorem gv_one (ns : List Int) : gateV "one" ns = 1 := by unfold gateV; rw [if_neg n_1a, if_neg n_1o, if_neg n_1d, if_neg n_1n, if_neg n_1c, if_pos rfl]
theorem getD_bit {ns : List Int} (b : Bits ns) {i : Nat} (h : i < ns.length) : ns.getD i 0 = 0 ∨ ns.getD i 0 = 1 := by
  rw [List.getD_eq_getElem?_getD, List.getElem?_eq_getElem h]
  exact b _ (List.getElem_mem h)
theorem gate_bit {x : Str} {ns : List Int} (b : Bits ns) (h : legsOk x ns.length) : gateV x ns = 0 ∨ gateV x ns = 1 := by
  rcases h with ⟨h | h | h, l1, l2⟩ | ⟨h, l1⟩ | ⟨h, l1⟩ | ⟨h | h, l1⟩
  · rw [h, gv_and]; split <;> simp
  · rw [h, gv_or]; split <;> simp
  · rw [h, gv_odd]; omega
  · rw [h, gv_not]
    have := getD_bit b (i := 0) (by omega)
    omega
  · rw [h, gv_choose]
    split
    · exact getD_bit b (i := 1) (by omega)
    · exact getD_bit b (i := 2) (by omega)
  · rw [h, gv_zero]; simp
  · rw [h, gv_one]; simp
noncomputable def wiresV (gs : List (Str × List Int)) (row : List Int) : Nat → List Int
  | 0 => row
  | n + 1 => wiresV gs row n ++ [match gs[n]? with
      | some g => gateV g.1 (g.2.map fun l => (wiresV gs row n).getD l.toNat 0)
      | none => 0]
theorem wiresV_len (gs : List (Str × List Int)) (row : List Int) : ∀ n, (wiresV gs row n).length = row.length + n
  | 0 => rfl
  | n + 1 => by rw [wiresV, List.length_append, wiresV_len gs row n]; simp; omega
theorem wiresV_bits {m : Nat} {w : Works} {row : List Int} (wf : WF m w) (hl : (row.length : Int) = w.ins) (b : Bits row) : ∀ n, n ≤ w.gates.length → Bits (wiresV w.gates row n)
  | 0, _ => b
  | n + 1, h => by
    have ih := wiresV_bits wf hl b n (by omega)
    obtain ⟨g, hg⟩ : ∃ g, w.gates[n]? = some g := ⟨_, List.getElem?_eq_getElem (by omega)⟩
    rw [wiresV, hg]
    intro z hz
    rcases List.mem_append.mp hz with hz | hz
    · exact ih z hz
    · rw [List.mem_singleton.mp hz]
      obtain ⟨l1, l2⟩ := wf.legs n g hg
      refine gate_bit (fun y hy => ?_) (by rw [List.length_map]; exact l1)
      obtain ⟨l, hl', rfl⟩ := List.mem_map.mp hy
      have := l2 l hl'
      exact getD_bit ih (by rw [wiresV_len]; omega)
theorem ifY {x y : Str} {A B : Prop} (h : x = y) (a : A) : if (decide (V.str x = V.str y)) = true then A else B := by rw [if_pos (decide_eq_true (by rw [h]))]; exact a
theorem ifN {x y : Str} {A B : Prop} (h : x ≠ y) (b : B) : if (decide (V.str x = V.str y)) = true then A else B := by rw [if_neg (by rw [decide_eq_true_eq]; intro z; exact h (V.str.inj z))]; exact b
theorem at_ints {ns : List Int} {i : Int} (h0 : 0 ≤ i) (h1 : i < ns.length) : atI (ns.map V.int) i = some (.int (ns.getD i.toNat 0)) := by
  have e : i = ((i.toNat : Nat) : Int) := by omega
  have hk : i.toNat < ns.length := by omega
  have q : atI (ns.map V.int) ((i.toNat : Nat) : Int) = some (.int ns[i.toNat]) := atI_nat (by rw [List.getElem?_map, List.getElem?_eq_getElem hk] <;> rfl)
  rw [← e] at q
  rw [q, List.getD_eq_getElem?_getD, List.getElem?_eq_getElem hk]
  rfl
end My
namespace My
open PySem L2
open PySem.W (Dat kqdP kqdPs kqdOk)
theorem WF.mono {m n : Nat} {w : Works} (h : WF m w) (l : m ≤ n) : WF n w := ⟨h.i1, h.i6, Nat.le_trans h.few l, h.legs, h.o1, Nat.le_trans h.o3 (by omega), h.outs⟩
noncomputable def rowsV : Nat → List (List Int)
  | 0 => [[]]
  | n + 1 => (rowsV n).map (0 :: ·) ++ (rowsV n).map (1 :: ·)
theorem rowsV_many : ∀ n, (rowsV n).length = 2 ^ n
  | 0 => rfl
  | n + 1 => by rw [rowsV, List.length_append, List.length_map, List.length_map, rowsV_many n, Nat.pow_succ]; omega
theorem rowsV_row : ∀ n r, r ∈ rowsV n → r.length = n ∧ Bits r
  | 0, r, h => by
    rw [List.mem_singleton.mp h]
    exact ⟨rfl, fun _ z => nomatch z⟩
  | n + 1, r, h => by
    rcases List.mem_append.mp h with h | h
    · obtain ⟨u, hu, rfl⟩ := List.mem_map.mp h
      obtain ⟨a, b⟩ := rowsV_row n u hu
      exact ⟨by rw [List.length_cons, a], fun z hz => by
        rcases List.mem_cons.mp hz with e | e
        · exact .inl e
        · exact b z e⟩
    · obtain ⟨u, hu, rfl⟩ := List.mem_map.mp h
      obtain ⟨a, b⟩ := rowsV_row n u hu
      exact ⟨by rw [List.length_cons, a], fun z hz => by
        rcases List.mem_cons.mp hz with e | e
        · exact .inr e
        · exact b z e⟩
theorem rowsV_le {n : Nat} (h : n ≤ 6) : (rowsV n).length ≤ 64 := by
  rw [rowsV_many]
  exact Nat.pow_le_pow_right (n := 2) (by decide) h
noncomputable def rowD (r : List Int) : Dat := .list (r.map .int)
inductive At (H : Hp) : List Addr → List (List Int) → Prop
  | nil : At H [] []
  | cons {q : Addr} {r : List Int} {qs : List Addr} {rs : List (List Int)} : H q = some (.lst (r.map V.int)) → At H qs rs → At H (q :: qs) (r :: rs)
section
variable {K : PySem.W.Frag} {H H' : Hp} {qs qs' : List Addr} {rs rs' : List (List Int)}
theorem At.mono (s : Same H H') (h : At H qs rs) : At H' qs rs := by
  induction h with
  | nil => exact .nil
  | cons e _ ih => exact .cons (s _ _ e) ih
theorem At.append (h : At H qs rs) (h' : At H qs' rs') : At H (qs ++ qs') (rs ++ rs') := by
  induction h with
  | nil => exact h'
  | cons e _ ih => exact .cons e ih
theorem At.len (h : At H qs rs) : qs.length = rs.length := by
  induction h with
  | nil => rfl
  | cons e _ ih => rw [List.length_cons, List.length_cons, ih]
theorem At.get (h : At H qs rs) : ∀ {i : Nat} {q : Addr}, qs[i]? = some q → ∃ r, rs[i]? = some r ∧ H q = some (.lst (r.map V.int)) := by
  induction h with
  | nil => intro i q e; cases e
  | cons e _ ih =>
    intro i q z
    cases i with
    | zero => cases z; exact ⟨_, rfl, e⟩
    | succ i => exact ih z
theorem At.here (h : At H qs rs) {q : Addr} (m : q ∈ qs) : ∃ r ∈ rs, H q = some (.lst (r.map V.int)) := by
  obtain ⟨i, hi⟩ := List.getElem?_of_mem m
  obtain ⟨r, a, b⟩ := h.get hi
  exact ⟨r, List.mem_of_getElem? a, b⟩
theorem At.reps (h : At H qs rs) : Reps K H (qs.map V.ref) (rs.map rowD) := by
  induction h with
  | nil => exact .nil
  | cons e _ ih => exact .cons (.lst (.of e) (Reps.ints _)) ih
theorem At.write {p : Addr} {o : HO} (n : p ∉ qs) (h : At H qs rs) : At (upd H p o) qs rs := by
  induction h with
  | nil => exact .nil
  | cons e _ ih =>
    refine .cons ?_ (ih fun z => n (.tail _ z))
    rename_i q0 _ _ _ _
    have hne : q0 ≠ p := fun z => n (by rw [z]; exact .head _)
    rw [upd_ne hne]
    exact e
theorem At.set {r : List Int} (h : At H qs rs) : ∀ {i : Nat} {q : Addr}, qs.Nodup → qs[i]? = some q → At (upd H q (.lst (r.map V.int))) qs (rs.set i r) := by
  induction h with
  | nil => intro i q _ e; cases e
  | @cons q' r' qs' rs' e t ih =>
    intro i q nd z
    have nd' := List.nodup_cons.mp nd
    cases i with
    | zero =>
      cases z
      exact .cons upd_same (t.write nd'.1)
    | succ i =>
      refine .cons ?_ (ih nd'.2 z)
      have hne : q' ≠ q := fun y => nd'.1 (by rw [y]; exact List.mem_of_getElem? z)
      rw [upd_ne hne]
      exact e
end
structure Rows (H0 : Hp) (R : Addr) (qs : List Addr) (rs : List (List Int)) (H : Hp) : Prop where
  same : Same H0 H
  out : H0 R = none
  at_ : H R = some (.lst (qs.map V.ref))
  rows : At H qs rs
  nd : qs.Nodup
  new : ∀ q ∈ qs, H0 q = none ∧ q ≠ R
section
variable {K : PySem.W.Frag} {H0 H H1 H2 : Hp} {R D D1 D2 T q : Addr} {qs qs1 qs2 : List Addr} {rs rs1 rs2 : List (List Int)}
theorem Rows.start (s : Same H0 H) (h : H D = none) : Rows H0 D [] [] (upd H D (.lst [])) := ⟨s.upd h _, s.free h, upd_same, .nil, .nil, fun _ z => nomatch z⟩
theorem Rows.sq (b : Rows H0 R qs rs H) : SqL K H R (qs.map V.ref) := .of b.at_
theorem Rows.rep (b : Rows H0 R qs rs H) : Rep K H (.ref R) (.list (rs.map rowD)) := .lst b.sq b.rows.reps
theorem Rows.grow (b : Rows H0 R qs rs H) (s : Same H H1) : Rows H0 R qs rs H1 := ⟨b.same.trans s, b.out, s _ _ b.at_, b.rows.mono s, b.nd, b.new⟩
theorem Rows.push {o : HO} {r : List Int} {vs : List V} (b : Rows H0 D qs rs H) (hT : H T = none) (hq : upd H T o q = none) (e : vs = r.map V.int) :
    Rows H0 D (qs ++ [q]) (rs ++ [r]) (upd (upd (upd H T o) q (.lst vs)) D (.lst (qs.map V.ref ++ [.ref q]))) := by
  subst e
  have s1 : Same H (upd (upd H T o) q (.lst (r.map V.int))) := (same_upd hT _).upd hq _
  have q0 : H q = none := (same_upd hT o).free hq
  have qD : q ≠ D := Ne.symm (ne_of_none b.at_ q0)
  have nq : q ∉ qs := fun z => by
    obtain ⟨r, _, e⟩ := b.rows.here z
    rw [q0] at e
    cases e
  refine ⟨(b.same.trans s1).write b.out _, b.out, by rw [upd_same, List.map_append]; rfl, ?_, ?_, fun z hz => ?_⟩
  · refine At.write (fun z => ?_) (At.append (b.rows.mono s1) (.cons upd_same .nil))
    rcases List.mem_append.mp z with z | z
    · exact (b.new D z).2 rfl
    · exact qD (List.mem_singleton.mp z).symm
  · refine List.nodup_append.mpr ⟨b.nd, List.nodup_cons.mpr ⟨(fun z => nomatch z), List.nodup_nil⟩, fun x hx y hy e => ?_⟩
    rw [List.mem_singleton.mp hy] at e
    exact nq (e ▸ hx)
  · rcases List.mem_append.mp hz with hz | hz
    · exact b.new z hz
    · rw [List.mem_singleton.mp hz]
      exact ⟨b.same.free q0, qD⟩
theorem Rows.cat (a : Rows H0 D1 qs1 rs1 H1) (b : Rows H1 D2 qs2 rs2 H2) (h : H2 R = none) : Rows H0 R (qs1 ++ qs2) (rs1 ++ rs2) (upd H2 R (.lst (qs1.map V.ref ++ qs2.map V.ref))) := by
  have s := a.same.trans b.same
  have t : At H2 (qs1 ++ qs2) (rs1 ++ rs2) := (a.rows.mono b.same).append b.rows
  refine ⟨s.upd h _, s.free h, by rw [upd_same, List.map_append], t.mono (same_upd h _), ?_, fun q hq => ?_⟩
  · refine List.nodup_append.mpr ⟨a.nd, b.nd, fun x hx y hy e => ?_⟩
    subst e
    obtain ⟨r, _, e⟩ := a.rows.here hx
    rw [(b.new x hy).1] at e
    cases e
  · refine ⟨?_, fun e => ?_⟩
    · rcases List.mem_append.mp hq with hq | hq
      · exact (a.new q hq).1
      · exact a.same.free (b.new q hq).1
    · obtain ⟨r, _, z⟩ := t.here hq
      rw [e, h] at z
      cases z
end
theorem reps_ints {K : PySem.W.Frag} {H : Hp} : ∀ {xs : List V} {ns : List Int}, Reps K H xs (ns.map Dat.int) → xs = ns.map V.int
  | _, [], h => by cases h; rfl
  | _, n :: ns, h => by
    cases h with
    | cons h1 h2 =>
      cases h1
      rw [reps_ints h2]
      rfl
theorem take_map_snoc {r : List Int} {rs : List (List Int)} {j : Nat} (f : List Int → List Int) (h : rs[j]? = some r) : (rs.take (j + 1)).map f = (rs.take j).map f ++ [f r] := by
  rw [List.take_add_one, h, List.map_append]
  rfl
end My
namespace My
open PySem L2
open PySem.W (Dat kqdP kqdPs kqdOk)
theorem ok_ints8 (ns : List Int) : kqdOk 8 (.list (ns.map Dat.int)) = true := ok_ints 7 ns
end My
namespace My
open PySem L2
open PySem.W (Dat kqdP kqdPs kqdOk)
structure Flt where
  place : List Key
  worth : Int
noncomputable def kD : Key → Dat
  | .inl n => .int n
  | .inr s => .str s
noncomputable def fltD (f : Flt) : Dat := .tuple (f.place.map kD ++ [.int f.worth])
noncomputable def wireK (i : Int) : List Key := [Sum.inr "wire", Sum.inl i]
noncomputable def legK (k i : Int) : List Key := [Sum.inr "leg", Sum.inl k, Sum.inl i]
noncomputable def wiresK : Nat → List (List Key)
  | 0 => []
  | n + 1 => wiresK n ++ [wireK n]
noncomputable def legsK (k : Int) : Nat → List (List Key)
  | 0 => []
  | n + 1 => legsK k n ++ [legK k n]
noncomputable def gatesK (gs : List (Str × List Int)) : Nat → List (List Key)
  | 0 => []
  | n + 1 => gatesK gs n ++ legsK n ((gs[n]?.map fun g => g.2.length).getD 0)
noncomputable def placesK (w : Works) : List (List Key) := wiresK (w.ins.toNat + w.gates.length) ++ gatesK w.gates w.gates.length
theorem legK_inj {k l i j : Int} (h : legK k i = legK l j) : k = l ∧ i = j := by
  unfold legK at h
  injection h with _ h
  injection h with h1 h
  injection h with h
  exact ⟨Sum.inl.inj h1, Sum.inl.inj h⟩
theorem wire_leg {i k j : Int} (h : wireK i = legK k j) : False := by
  have := congrArg List.length h
  exact absurd this (by show ¬ (2 : Nat) = 3; decide)
noncomputable def GoodF (w : Works) (f : Flt) : Prop := f.place ∈ placesK w ∧ (f.worth = 0 ∨ f.worth = 1)
noncomputable def Apart (fs : List Flt) : Prop := (fs.map (·.place)).Nodup
noncomputable def look (fs : List Flt) (p : List Key) : Option Int := (fs.find? fun f => decide (f.place = p)).map (·.worth)
noncomputable def pick (fs : List Flt) (p : List Key) (v : Int) : Int := (look fs p).getD v
noncomputable def legsS (fs : List Flt) (k : Int) (ns : List Int) : List Int := ns.mapIdx fun i v => pick fs (legK k i) v
noncomputable def rowS (fs : List Flt) (ns : List Int) : List Int := ns.mapIdx fun i v => pick fs (wireK i) v
noncomputable def wiresS (fs : List Flt) (gs : List (Str × List Int)) (row : List Int) : Nat → List Int
  | 0 => rowS fs row
  | n + 1 => wiresS fs gs row n ++ [pick fs (wireK ((row.length + n : Nat) : Int)) (match gs[n]? with
      | some g => gateV g.1 (legsS fs n (g.2.map fun l => (wiresS fs gs row n).getD l.toNat 0))
      | none => 0)]
theorem rowS_len (fs : List Flt) (ns : List Int) : (rowS fs ns).length = ns.length := by unfold rowS; rw [List.length_mapIdx]
theorem wiresS_len (fs : List Flt) (gs : List (Str × List Int)) (row : List Int) : ∀ n, (wiresS fs gs row n).length = row.length + n
  | 0 => rowS_len fs row
  | n + 1 => by rw [wiresS, List.length_append, wiresS_len fs gs row n]; simp; omega
theorem pick_nil (p : List Key) (v : Int) : pick [] p v = v := rfl
theorem rowS_nil (ns : List Int) : rowS [] ns = ns := by
  unfold rowS
  refine List.ext_getElem? fun i => ?_
  rw [List.getElem?_mapIdx]
  cases ns[i]? <;> rfl
theorem legsS_nil (k : Int) (ns : List Int) : legsS [] k ns = ns := by
  unfold legsS
  refine List.ext_getElem? fun i => ?_
  rw [List.getElem?_mapIdx]
  cases ns[i]? <;> rfl
theorem wiresS_nil (gs : List (Str × List Int)) (row : List Int) : ∀ n, wiresS [] gs row n = wiresV gs row n
  | 0 => rowS_nil row
  | n + 1 => by
    rw [wiresS, wiresV, wiresS_nil gs row n, pick_nil]
    cases gs[n]? with
    | none => rfl
    | some g => simp only [legsS_nil]
theorem cut_last (xs : List V) (v : V) : cutV (xs ++ [v]) none (some (-1)) = xs := by
  have e1 : HT.sIx (xs ++ [v]).length 0 none = 0 := rfl
  have e2 : HT.sIx (xs ++ [v]).length (xs ++ [v]).length (some (-1)) = xs.length := by
    simp only [HT.sIx, List.length_append, List.length_singleton]
    rw [if_pos (by decide)]
    omega
  unfold cutV
  rw [e1, e2]
  simp
theorem at_last (xs : List V) (v : V) : atI (xs ++ [v]) (-1) = some v := by
  unfold atI ixN
  have e : ((-1 : Int) + ((xs ++ [v]).length : Nat)).toNat = xs.length := by rw [List.length_append, List.length_singleton]; omega
  rw [if_neg (by decide), if_pos (by rw [List.length_append, List.length_singleton]; omega), e]
  simp
end My
namespace My
open PySem L2
open PySem.W (Dat kqdP kqdPs kqdOk)
structure GoodFs (K : PySem.W.Frag) (w : Works) (most : Nat) (G : Hp) (v : V) (fs : List Flt) : Prop where
  rep : Rep K G v (.list (fs.map fltD))
  good : ∀ f ∈ fs, GoodF w f
  apart : Apart fs
  few : fs.length ≤ most
theorem GoodFs.mono {K : PySem.W.Frag} {w : Works} {most : Nat} {G G' : Hp} {v : V} {fs : List Flt} (h : GoodFs K w most G v fs) (s : Same G G') : GoodFs K w most G' v fs := ⟨h.rep.mono s, h.good, h.apart, h.few⟩
end My
namespace L2
theorem Reps.rev {K : PySem.W.Frag} {H : Hp} : ∀ {vs : List V} {ds : List PySem.W.Dat}, Reps K H vs ds → Reps K H vs.reverse ds.reverse
  | _, _, .nil => .nil
  | _, _, .cons h r => by
    rw [List.reverse_cons, List.reverse_cons]
    exact (Reps.rev r).snoc h
end L2
namespace My
open PySem L2
open PySem.W (Dat kqdP kqdPs kqdOk)
theorem Apart.rev {fs : List Flt} (a : Apart fs) : Apart fs.reverse := by
  unfold Apart at a ⊢
  rw [List.map_reverse]
  exact (List.reverse_perm _).symm.nodup a
theorem wiresS_at (fs : List Flt) (ws : List (Str × List Int)) (row : List Int) {i n : Nat} (h : i < row.length + n) : ∀ m, n ≤ m → (wiresS fs ws row m)[i]? = (wiresS fs ws row n)[i]?
  | 0, hm => by
    have : n = 0 := by omega
    subst this
    rfl
  | m + 1, hm => by
    by_cases e : n = m + 1
    · subst e
      rfl
    · rw [wiresS, List.getElem?_append_left (by rw [wiresS_len]; omega), wiresS_at fs ws row h m (by omega)]
theorem wiresS_legs {A B : List Flt} {ws : List (Str × List Int)} {row : List Int} {g : Nat} {v : Int} (h : ∀ q, (∀ p : Int, q ≠ legK g p) → look A q = look B q) (ha : look A (wireK ((row.length + g : Nat) : Int)) = some v) : ∀ n, wiresS A ws row n = wiresS B ws row n := by
  have hw : ∀ i : Int, look A (wireK i) = look B (wireK i) := fun i => h _ fun p z => wire_leg z
  have hpw : ∀ (i x : Int), pick A (wireK i) x = pick B (wireK i) x := fun i x => by unfold pick; rw [hw]
  intro n
  induction n with
  | zero =>
    show rowS A row = rowS B row
    unfold rowS
    simp only [hpw]
  | succ n ih =>
    rw [wiresS, wiresS, ih]
    by_cases e : n = g
    · subst e
      have hb := (hw ((row.length + n : Nat) : Int)).symm.trans ha
      unfold pick
      rw [ha, hb]
      rfl
    · have hl : ∀ ns, legsS A n ns = legsS B n ns := fun ns => by
        unfold legsS
        have : ∀ (i : Nat) (x : Int), pick A (legK n i) x = pick B (legK n i) x := fun i x => by
          unfold pick
          rw [h _ fun p z => e (by have := (legK_inj z).1; omega)]
        simp only [this]
      rw [hpw]
      cases ws[n]? with
      | none => rfl
      | some g' => simp only [hl]
end My
namespace My
open PySem L2
open PySem.W (Dat kqdP kqdPs kqdOk)
noncomputable def Meet (w : Works) (A B : List Flt) : Prop := A = B ∨ ∃ (g : Nat) (v : Int), (∀ q, (∀ p : Int, q ≠ legK g p) → look A q = look B q) ∧ look A (wireK ((w.ins.toNat + g : Nat) : Int)) = some v
theorem Meet.wires {w : Works} {A B : List Flt} (h : Meet w A B) {row : List Int} (hl : (row.length : Int) = w.ins) (n : Nat) : wiresS A w.gates row n = wiresS B w.gates row n := by
  rcases h with rfl | ⟨g, v, h1, h2⟩
  · rfl
  · have e : w.ins.toNat = row.length := by omega
    rw [e] at h2
    exact wiresS_legs h1 h2 n
end My
namespace My
open PySem L2
open PySem.W (Dat kqdP kqdPs kqdOk)
noncomputable abbrev Gts := List (Str × List Int)
noncomputable def wvAt (gl : Gts) (row : List Int) (i : Int) : Int := (wiresV gl row gl.length).getD i.toNat 0
noncomputable def GoodG (ins : Int) (gl : Gts) : Prop := ∀ (k : Nat) g, gl[k]? = some g → legsOk g.1 g.2.length ∧ ∀ l ∈ g.2, 0 ≤ l ∧ l < ins + k
theorem GoodG.snoc {ins : Int} {gl : Gts} {x : Str} {ls : List Int} (h : GoodG ins gl) (hk : legsOk x ls.length) (hl : ∀ l ∈ ls, 0 ≤ l ∧ l < ins + gl.length) : GoodG ins (gl ++ [(x, ls)]) := fun k g e => by
  by_cases hk' : k < gl.length
  · rw [List.getElem?_append_left hk'] at e
    exact h k g e
  · have : k < (gl ++ [(x, ls)]).length := (List.getElem?_eq_some_iff.mp e).1
    have ek : k = gl.length := by
      rw [List.length_append, List.length_singleton] at this
      omega
    subst ek
    rw [List.getElem?_append_right (Nat.le_refl _), Nat.sub_self] at e
    cases e
    exact ⟨hk, hl⟩
theorem wiresV_pre (gl ext : Gts) (row : List Int) : ∀ n, n ≤ gl.length → wiresV (gl ++ ext) row n = wiresV gl row n
  | 0, _ => rfl
  | n + 1, h => by
    rw [wiresV, wiresV, wiresV_pre gl ext row n (by omega), List.getElem?_append_left (by omega)]
theorem wiresV_at (gl : Gts) (row : List Int) {i n : Nat} (h : i < row.length + n) {m : Nat} (hm : n ≤ m) : (wiresV gl row m)[i]? = (wiresV gl row n)[i]? := by
  rw [← wiresS_nil, ← wiresS_nil]
  exact wiresS_at [] gl row h m hm
noncomputable def AtG (ins : Int) (gl : Gts) (w : Int) (x : Str) (ls : List Int) : Prop := ∃ k : Nat, w = ins + k ∧ gl[k]? = some (x, ls)
theorem AtG.last (ins : Int) (gl : Gts) (x : Str) (ls : List Int) : AtG ins (gl ++ [(x, ls)]) (ins + gl.length) x ls := ⟨gl.length, rfl, by simp⟩
theorem AtG.ext {ins : Int} {gl ext : Gts} {w : Int} {x : Str} {ls : List Int} (h : AtG ins gl w x ls) : AtG ins (gl ++ ext) w x ls := by
  obtain ⟨k, e, g⟩ := h
  exact ⟨k, e, by rw [List.getElem?_append_left (List.getElem?_eq_some_iff.mp g).1]; exact g⟩
section
variable {ins : Int} {gl : Gts} {row : List Int} {w : Int} {x : Str} {ls : List Int}
theorem AtG.val (good : GoodG ins gl) (hl : (row.length : Int) = ins) (h : AtG ins gl w x ls) : wvAt gl row w = gateV x (ls.map (wvAt gl row)) := by
  obtain ⟨k, rfl, g⟩ := h
  have hk := (List.getElem?_eq_some_iff.mp g).1
  have e1 : (ins + (k : Int)).toNat = row.length + k := by omega
  unfold wvAt
  rw [e1, List.getD_eq_getElem?_getD, wiresV_at gl row (n := k + 1) (by omega) (by omega), wiresV, List.getElem?_append_right (by rw [wiresV_len]; omega)]
  have e2 : row.length + k - (wiresV gl row k).length = 0 := by rw [wiresV_len]; omega
  rw [e2, g]
  show gateV x (ls.map fun l => (wiresV gl row k).getD l.toNat 0) = _
  congr 1
  refine List.map_congr_left fun l hm => ?_
  have b := (good k (x, ls) g).2 l hm
  rw [List.getD_eq_getElem?_getD, List.getD_eq_getElem?_getD, wiresV_at gl row (n := k) (m := gl.length) (by omega) (by omega)]
theorem AtG.lt (h : AtG ins gl w x ls) : w < ins + gl.length := by
  obtain ⟨k, rfl, g⟩ := h
  have := (List.getElem?_eq_some_iff.mp g).1
  omega
end
theorem gv_not1 (v : Int) : gateV "not" [v] = 1 - v := by rw [gv_not]; rfl
noncomputable def notsW (n0 : Int) (n : Nat) : List Int := (List.range n).map fun (t : Nat) => n0 + (t : Int)
theorem notsW_len (n0 : Int) (n : Nat) : (notsW n0 n).length = n := by unfold notsW; simp
theorem notsW_get {n0 : Int} {n t : Nat} (h : t < n) : (notsW n0 n)[t]? = some (n0 + (t : Int)) := by
  unfold notsW
  rw [List.getElem?_map, List.getElem?_range h]
  rfl
noncomputable def NotsAt (ins : Int) (gl : Gts) (n0 : Int) (ss : List Int) : Prop := ∀ (t : Nat) (s : Int), ss[t]? = some s → AtG ins gl (n0 + t) "not" [s]
theorem NotsAt.ext {ins n0 : Int} {gl ext : Gts} {ss : List Int} (h : NotsAt ins gl n0 ss) : NotsAt ins (gl ++ ext) n0 ss := fun t s e => (h t s e).ext
theorem NotsAt.vals {ins n0 : Int} {gl : Gts} {ss row : List Int} (h : NotsAt ins gl n0 ss) (good : GoodG ins gl) (hl : (row.length : Int) = ins) : (notsW n0 ss.length).map (wvAt gl row) = (ss.map (wvAt gl row)).map fun v => 1 - v := by
  refine List.ext_getElem? fun t => ?_
  by_cases ht : t < ss.length
  · rw [List.getElem?_map, notsW_get ht, List.getElem?_map, List.getElem?_map, List.getElem?_eq_getElem ht]
    show some (wvAt gl row (n0 + t)) = some (1 - wvAt gl row ss[t])
    rw [(h t _ (List.getElem?_eq_getElem ht)).val good hl]
    show some (gateV "not" [wvAt gl row ss[t]]) = _
    rw [gv_not1]
  · rw [List.getElem?_eq_none (by rw [List.length_map, notsW_len]; omega), List.getElem?_eq_none (by rw [List.length_map, List.length_map]; omega)]
section
variable {ins n0 : Int} {gl : Gts} {ss : List Int} {one other b l r : Int}
noncomputable def OddAt (ins : Int) (gl : Gts) (ss : List Int) (j : Nat) (st : Int) : Prop := 0 ≤ st ∧ st < ins + gl.length ∧ ∀ row : List Int, (row.length : Int) = ins → Bits row → wvAt gl row st = ((ss.take j).map (wvAt gl row)).sum % 2
end
theorem val_ext {ins : Int} {gl ext : Gts} {row : List Int} {w : Int} (hl : (row.length : Int) = ins) (h0 : 0 ≤ w) (h1 : w < ins + gl.length) : wvAt (gl ++ ext) row w = wvAt gl row w := by
  unfold wvAt
  rw [List.getD_eq_getElem?_getD, List.getD_eq_getElem?_getD, wiresV_at (gl ++ ext) row (n := gl.length) (by omega) (by rw [List.length_append]; omega), wiresV_pre gl ext row gl.length (Nat.le_refl _)]
theorem OddAt.step {ins : Int} {gl : Gts} {ss : List Int} {j : Nat} {st s : Int} (good : GoodG ins gl) (i0 : 0 ≤ ins) (hs : ∀ s ∈ ss, 0 ≤ s ∧ s < ins + gl.length) (h : OddAt ins gl ss j st) (e : ss[j]? = some s) : OddAt ins (gl ++ [(("odd" : Str), [st, s])]) ss (j + 1) (ins + gl.length) := by
  have bs := hs s (List.mem_of_getElem? e)
  obtain ⟨h0, h1, h2⟩ := h
  have good' : GoodG ins (gl ++ [(("odd" : Str), [st, s])]) := good.snoc (.inl ⟨.inr (.inr rfl), (by show 2 ≤ 2; decide), (by show 2 ≤ 4; decide)⟩) fun l hl => by
    rcases List.mem_cons.mp hl with rfl | hl
    · exact ⟨h0, h1⟩
    · rw [List.mem_singleton.mp hl]; exact bs
  refine ⟨by omega, by rw [List.length_append, List.length_singleton]; omega, fun row hl br => ?_⟩
  rw [(AtG.last ins gl "odd" [st, s]).val good' hl]
  simp only [List.map_cons, List.map_nil]
  rw [gv_odd, val_ext hl h0 h1, val_ext hl bs.1 bs.2, h2 row hl br, List.take_add_one, e, List.map_append, List.sum_append]
  have e2 : (ss.take j).map (wvAt (gl ++ [(("odd" : Str), [st, s])]) row) = (ss.take j).map (wvAt gl row) := List.map_congr_left fun z hz => by
    have := hs z (List.mem_of_mem_take hz)
    exact val_ext hl this.1 this.2
  rw [e2]
  show ([((ss.take j).map (wvAt gl row)).sum % 2, wvAt gl row s].sum) % 2 = (((ss.take j).map (wvAt gl row)).sum + [wvAt (gl ++ [(("odd" : Str), [st, s])]) row s].sum) % 2
  rw [val_ext hl bs.1 bs.2]
  simp only [List.sum_cons, List.sum_nil]
  omega
structure GL (K : PySem.W.Frag) (M : List Addr) (m : Addr) (ins : Int) (gl : Gts) (G H : Hp) : Prop where
  off : Off (m :: M) G H
  at_ : ∃ gs, H m = some (.lst gs) ∧ Reps K G gs (gl.map gateD)
  good : GoodG ins gl
section
variable {K : PySem.W.Frag} {M : List Addr} {m D T : Addr} {ins : Int} {gl : Gts} {G H : Hp} {o : HO}
theorem GL.new (g : GL K M m ins gl G H) (h : H T = none) (o : HO) : GL K M m ins gl G (upd H T o) := by
  obtain ⟨gs, e, r⟩ := g.at_
  exact ⟨g.off.new h o, ⟨gs, same_upd h o _ _ e, r⟩, g.good⟩
theorem GL.write (g : GL K M m ins gl G H) (h : D ∈ M) (hm : D ≠ m) (o : HO) : GL K M m ins gl G (upd H D o) := by
  obtain ⟨gs, e, r⟩ := g.at_
  exact ⟨g.off.write (.tail _ h) o, ⟨gs, by rw [upd_ne (Ne.symm hm)]; exact e, r⟩, g.good⟩
end
end My
namespace My
open PySem L2
end My
namespace My
open PySem L2
open PySem.W (Dat kqdP kqdPs kqdOk)
noncomputable def sh (W l : Int) : Int := l + (if W ≤ l then 1 else 0)
noncomputable def turned (W : Int) (g p n : Nat) (ls : List Int) : List Int := if n = g then (ls.map (sh W)).set p W else ls.map (sh W)
end My
namespace L2
theorem Reps.take {K : PySem.W.Frag} {H : Hp} : ∀ {vs : List V} {ds : List PySem.W.Dat} (n : Nat), Reps K H vs ds → Reps K H (vs.take n) (ds.take n)
  | _, _, 0, _ => .nil
  | _, _, _ + 1, .nil => .nil
  | _, _, n + 1, .cons h r => .cons h (Reps.take n r)
theorem Reps.drop {K : PySem.W.Frag} {H : Hp} : ∀ {vs : List V} {ds : List PySem.W.Dat} (n : Nat), Reps K H vs ds → Reps K H (vs.drop n) (ds.drop n)
  | _, _, 0, r => r
  | _, _, _ + 1, .nil => .nil
  | _, _, n + 1, .cons _ r => Reps.drop n r
end L2
namespace L2
open PySem PySem.Spec PyProof.Rows
structure Air (C : Value) (h0 : Heap) (x : Addr) (H' : Hp) (h : Heap) : Prop where
  newx : h0.get? x = none
  hx : H' x = none
  tr : ∃ T a0 oe vs oT ts, h.get? x = some oe ∧ (oe.cls = C ∧ vs[0]? = some a0) ∧ oe.data = .fields vs ∧ vs[1]? = some (.ref T) ∧ h0.get? T = none ∧ H' T = none ∧ T ≠ x ∧ h.get? T = some oT ∧ oT.data = .fields ts ∧ ts[3]? = some .none
noncomputable def CXC (P : Program) (w : World) (C : Value) : CXT := fun outer H s E e s' => ∃ x H', e = .ref x ∧ s'.os = s.os ∧ AllBare s'.gens ∧ Un (frs outer) [] H H' s.heap s'.heap ∧ HOk P w H' s'.heap ∧ Air C s.heap x H' s'.heap ∧ E e (some x) H'
theorem ObjOk.there {P : Program} {w : World} {H : Hp} {h : Heap} {a : Addr} {o : HO} (x : ObjOk P w H h a o) : ∃ ob, h.get? a = some ob := by
  cases o with
  | lst xs => obtain ⟨_, _, _, _, e⟩ := x; exact ⟨_, e⟩
  | tup xs => obtain ⟨_, _, _, ob, e, _⟩ := x; exact ⟨_, e⟩
  | dK kvs => obtain ⟨_, _, _, _, o, _, _, e, _⟩ := x; exact ⟨_, e⟩
  | dT kvs => obtain ⟨_, _, _, _, o, _, _, e, _⟩ := x; exact ⟨_, e⟩
  | set S n => obtain ⟨o, _, _, _, e, _⟩ := x; exact ⟨_, e⟩
  | ins C dx fs => obtain ⟨_, _, _, e, _⟩ := x; exact ⟨_, e⟩
  | own y => obtain ⟨_, e⟩ := x; exact ⟨_, e⟩
  | xd fs => obtain ⟨_, ⟨_, _, _, e, _⟩, _⟩ := x; exact ⟨_, e⟩
  | rng lo hi => obtain ⟨_, _, _, e⟩ := x; exact ⟨_, e⟩
  | frz ob u => obtain ⟨e, _⟩ := x; exact ⟨_, e⟩
  | tbl ps => exact ⟨_, x⟩
  | met f y => exact ⟨_, x⟩
  | ext φ => obtain ⟨_, ⟨_, e⟩, _⟩ := x; exact ⟨_, e⟩
theorem Un.left {fs : List Addr} {H H' : Hp} {h h' h'' : Heap} {x T : Addr} (u : Un fs [] H H' h h') (nx : h.get? x = none) (nT : h.get? T = none) (k : ∀ b o, b ∉ fs → b ≠ x → b ≠ T → h'.get? b = some o → h''.get? b = some o)
    (ks : ∀ b o, b ∈ fs → h'.get? b = some o → ∃ sl, h''.get? b = some { o with slots := sl }) : Un fs [] H H' h h'' := by
  have nn : ∀ {b o}, h.get? b = some o → b ≠ x ∧ b ≠ T := fun {b o} e => ⟨(fun z => by rw [z, nx] at e; cases e), (fun z => by rw [z, nT] at e; cases e)⟩
  refine ⟨fun b o e n hb hx => k b o hb (nn e).1 (nn e).2 (u.keep b o e n hb hx), fun b o e n hb hx => ?_, u.free, fun b o e hx => ?_, u.tups, u.frzs, u.tbls⟩
  · obtain ⟨sl, q⟩ := u.slot b o e n hb hx
    obtain ⟨sl', q'⟩ := ks b _ hb q
    exact ⟨sl', q'⟩
  · obtain ⟨o', q⟩ := u.there b o e hx
    by_cases hb : b ∈ fs
    · obtain ⟨sl, q'⟩ := ks b o' hb q
      exact ⟨_, q'⟩
    · exact ⟨o', k b o' hb (nn e).1 (nn e).2 q⟩
theorem HOk.left {P : Program} {w : World} {fs : List Addr} {H' : Hp} {h' h'' : Heap} {x T : Addr} (ok : HOk P w H' h') (nf : ∀ b ∈ fs, H' b = none) (nx : H' x = none) (nT : H' T = none) (k : ∀ b o, b ∉ fs → b ≠ x → b ≠ T → h'.get? b = some o → h''.get? b = some o) : HOk P w H' h'' := fun a o e => by
  have key : ∀ b u, H' b = some u → ∀ q, h'.get? b = some q → h''.get? b = some q := fun b u e q eq => k b q (fun z => by rw [nf b z] at e; cases e) (fun z => by rw [z, nx] at e; cases e) (fun z => by rw [z, nT] at e; cases e) eq
  refine (ok a o e).stay (fun b u hb q => ?_) (fun _ q => q) fun _ _ q => q
  rcases hb with rfl | hb
  · exact key _ _ e u q
  · exact key _ _ hb u q
section
variable {P : Program} {w : World} {C : Value} {M : Model} {A : Around} {env : Env} {outer : List Env} {L : Addr} {H : Hp} {s s' : Shared} {E : XK} {e : Value} {base : Heap} {E1 : Value → Shared → Prop}
end
theorem CXC.up {X : Cx} {pins : List (Addr × Obj)} {σ : St} {H : Hp} {s s' : Shared} {C : Value} {E : XK} {e : Value} (I : Inv X pins σ H s) (hx : X.ex = []) (cx : CXC X.prog X.w C X.stack H s E e s') : CXC X.prog X.w C X.outer X.H₀ X.s₀ E e s' := by
  obtain ⟨x, H', rfl, hos, hb, un, ok, ⟨newx, hx', T, a0, oe, vs, oT, ts, ex, ec, ed, e1, nT, hT, Tx, eT, edT, e3⟩, q⟩ := cx
  have J := I.call' hos un ok hb (fun b z => absurd z (by simp))
  have nn : ∀ {b : Addr}, s.heap.get? b = none → X.s₀.heap.get? b = none := fun {b} z => by
    cases y : X.s₀.heap.get? b with
    | none => rfl
    | some o =>
      obtain ⟨o', y'⟩ := I.base.there b o y (by rw [hx]; simp)
      rw [z] at y'
      cases y'
  have jb := J.base
  rw [hx] at jb
  exact ⟨x, H', rfl, J.os, J.bare, jb, J.hok, ⟨nn newx, hx', T, a0, oe, vs, oT, ts, ex, ec, ed, e1, nn nT, hT, Tx, eT, edT, e3⟩, q⟩
section
variable {P : Program} {w : World} {M : Model} {A : Around} {env : Env} {outer : List Env} {L C x : Addr} {H : Hp} {s : Shared} {E : XK} {base h' : Heap} {E1 : Value → Shared → Prop} {us : List Value}
end
section
variable {X : Cx} {C : Addr} {E : XK} {B nid iid : String} {bB : List Value} {x : Str} {np cpos pos : Pos} {e : Expr} {es : List Expr} {t : TA}
end
section
variable {P : Program} {w : World} {K : PySem.W.Frag} {mg : Str → Option Value} {base : Heap} {N : List Str} {qual : Str} {scope : Scope} {f C : Addr} {cd : Value} {A : Around} {outer : List Env} {s : Shared} {H : Hp} {E : XK}
end
section
variable {X : Cx}
theorem PS.nox {st : Stmt} {t : TS} (h : PS X.nox st t) : PS X st t := fun pins s σ H D I hw =>
  wpAny_mono (h pins s σ H D (I.wish _) hw) (fun _ _ q => q.unwish) fun _ _ z => z.elim
theorem PA.nox {es : List Expr} {t : TA} (h : PA X.nox es t) : PA X es t := fun pos pins s σ H Q I hw =>
  wpAny_mono (h pos pins s σ H Q (I.wish _) hw) (fun _ _ ⟨v, H', I', r, q⟩ => ⟨v, H', I'.unwish, r, q⟩) fun _ _ z => z.elim
end
section
variable {P : Program} {w : World} {K : PySem.W.Frag} {mg : Str → Option Value} {base : Heap}
variable {N : List Str} {qual : Str} {scope : Scope} {f C : Addr} {cd : Value} {A : Around} {outer : List Env} {s : Shared} {H : Hp} {E : XK}
end
end L2
namespace L2
open PySem PySem.Spec PyProof.Rows
section
variable {M : Model} {A : Around} {E : Value → Shared → Prop}
variable {nm q nm2 q2 : Str} {C N S N2 : Addr} {bs bm bs2 bm2 : List Value} {hdct hd2 : Bool} {sn sn2 : List Str} {sub sub2 : List Value} {ab ab2 : Bool} {col col2 : Option Bool} {dd dd2 : Option Addr} {k0 k1 k2 k3 k5 l0 l1 l2 l3 l5 : Option Value} {newId newId2 : String}
end
end L2
namespace L2
open PySem PySem.Spec PyProof.Rows
section
variable {X : Cx} {pins : List (Addr × Obj)} {σ : St} {H : Hp} {s : Shared}
end
section
variable {X : Cx} {pins : List (Addr × Obj)} {σ : St} {H1 : Hp} {s1 s' : Shared} {C S : Addr} {nid nid2 : String} {bB bB2 : List Value} {sx n : Str} {np hpos : Pos} {b₀ : Stmt} {suite : List Stmt} {j : Nat} {ts : TS} {D : Ends} {E' : XK} {e : Value}
noncomputable def D1 (D : Ends) (j : Nat) : Ends := { nx := fun σ' H' => D.nx (σ'.set j none) H', rt := fun _ _ => False }
end
section
variable {X : Cx} {C S f : Addr} {k : Nat} {fd : FuncData} {ps : List Str} {sp : Sp} {dvs : List V} {ds : List Value} {nid nid2 : String} {bB bB2 : List Value} {fx sx n : Str} {p np hpos cpos epos pos : Pos} {b₀ : Stmt} {suite : List Stmt} {j : Nat} {t : TA} {ts : TS} {e : Expr} {es : List Expr}
end
end L2
namespace L2
open PySem PySem.Spec PyProof.Rows
section
variable {prog : Program} {w : World} {A : Around} {E : Value → Shared → Prop} {h : Heap} {g : Array GenState} {d : Drawn} {t : Nat} {os : OsState} {a : Addr} {o : Obj} {K : PySem.W.Frag}
  {nm q : Str} {C N : Addr} {bs bm bmB : List Value} {hdct : Bool} {sn : List Str} {sub : List Value} {ab : Bool} {col : Option Bool} {dd : Option Addr} {k0 k1 k2 k3 k5 : Option Value} {B newId : String}
end
section
variable {X : Cx} {C : Addr} {B nid : String} {bB : List Value}
end
end L2
namespace L2
open PySem PySem.Spec PyProof.Rows
section
variable {X : Cx}
end
end L2
namespace My
open PySem L2
open PySem.W (Dat kqdP kqdPs kqdOk)
end My
namespace My
open PySem L2
open PySem.W (Dat kqdP kqdPs kqdOk)
end My
namespace L2
open PySem PySem.Spec PyProof.Rows
section
open PySem.SeqAt
open PySem.AutoSeq1 (wpAny_loadPart')
open PySem.MeetsSeq PySem.MeetsSeq2 PySem.MeetsSeq3
end
section
variable {X : Cx}
end
end L2
namespace My
open PySem L2
open PySem.W (Dat kqdP kqdPs kqdOk)
end My
namespace L2
open PySem PySem.Spec PyProof.Rows
section
open PySem.Sem (wp)
end
section
variable {X : Cx}
end
end L2
namespace L2
open PySem PySem.Spec PyProof.Rows
theorem dflt1 {tk : Tok} : Vals [V.int 1] [Value.int 1 tk] := .cons ⟨tk, rfl⟩ .nil
structure FunD (K : PySem.W.Frag) (x qual : Str) (st : Stmt) (f : Addr) (fd : FuncData) (T : Addr) : Prop where
  ex : ∃ (oc : Value) (od : Option Addr) (kV doc pm : Value) (an : Option Addr) (cdv ct : Value) (osl : Array (Option Value)),
    fd = PySem.W.fnOf x qual (defArgs st) (defBody st) (defScope st) (.ref T) kV doc pm an cdv ct ∧ K.lookup f = some ⟨oc, od, .func fd, osl⟩ ∧ PySem.W.codeIn K cdv qual = true
  kp : PySem.W.keepIn K (.ref f) = true
section
variable {P : Program} {w : World} {K : PySem.W.Frag} {mg : Str → Option Value} {base : Heap}
theorem FunD.okB {x qual : Str} {st : Stmt} {f T : Addr} {fd : FuncData} {N ps : List Str} {k : Nat} {sp : Sp} (F : FunD K x qual st f fd T) (S : FnScope N ps (defScope st)) (len : ∀ vs H Q E, sp vs H Q E → vs.length = ps.length)
    (hbody : ∀ (cdv : Value) (A : Around) (outer : List Env) (s : Shared) (H : Hp) (vs : List V) (Q : VK) (E : XK), Room k (A.deeper (envOfC qual (defScope st) s.heap.objs.size f cdv)) → sp vs H Q E →
      ∃ t, Bx (PSs (cxOf CX0 P w K mg base N qual (defScope st) f cdv A outer s H E).nox (defBody st) t) ∧ t { nx := fun _ H2 => Q .non H2, rt := Q } (start N vs) H) : FnOk P w K mg base CX0 (k + 1) f fd ps sp := by
  obtain ⟨oc, od, kV, doc, pm, an, cdv, ct, osl, rfl, lk, hcd⟩ := F.ex
  refine fn_of lk hcd S len fun A outer s H vs Q E hr hsp => ?_
  obtain ⟨t, h, q⟩ := hbody cdv A outer s H vs Q E hr hsp
  exact ⟨t, h.1.nox, q⟩
theorem FunD.binds {x qual : Str} {st : Stmt} {f T : Addr} {fd : FuncData} {ps : List Str} {ds : List Value} (F : FunD K x qual st f fd T)
    (h : ∀ (kV doc pm : Value) (an : Option Addr) (cdv ct : Value) (s : Shared) (us : List Value), K.In s.heap → (us ++ ds).length = ps.length →
      BindsTo s (PySem.W.fnOf x qual (defArgs st) (defBody st) (defScope st) (.ref T) kV doc pm an cdv ct) ⟨us, []⟩ (ps.zip (us ++ ds))) : Binds K fd ps ds := by
  obtain ⟨oc, od, kV, doc, pm, an, cdv, ct, osl, rfl, lk, hcd⟩ := F.ex
  exact h kV doc pm an cdv ct
theorem funD_mk {x qual : Str} {st : Stmt} {f T : Addr} {oc : Value} {od an : Option Addr} {osl : Array (Option Value)} {kV doc pm cdv ct : Value} (l : K.lookup f = some ⟨oc, od, .func (PySem.W.fnOf x qual (defArgs st) (defBody st) (defScope st) (.ref T) kV doc pm an cdv ct), osl⟩)
    (c : PySem.W.codeIn K cdv qual = true) (k : PySem.W.keepIn K (.ref f) = true) : FunD K x qual st f (PySem.W.fnOf x qual (defArgs st) (defBody st) (defScope st) (.ref T) kV doc pm an cdv ct) T := ⟨⟨oc, od, kV, doc, pm, an, cdv, ct, osl, rfl, l, c⟩, k⟩
end
end L2
namespace My
open PySem L2
noncomputable def gateI (o : Int) (x : Str) (ns : List Int) : Int :=
  if x = "not" then Builtin.bitXor o (ns.getD 0 0)
  else if x = "choose" then Builtin.bitOr (Builtin.bitAnd (ns.getD 0 0) (ns.getD 1 0)) (Builtin.bitAnd (Builtin.bitXor o (ns.getD 0 0)) (ns.getD 2 0))
  else ns.foldl (fun a b => if x = "and" then Builtin.bitAnd a b else if x = "or" then Builtin.bitOr a b else Builtin.bitXor a b) (if x = "and" ∨ x = "one" then o else 0)
theorem and_bits {a b : Int} (ha : a = 0 ∨ a = 1) (hb : b = 0 ∨ b = 1) : Builtin.bitAnd a b = if a = 1 ∧ b = 1 then 1 else 0 := by
  rcases ha with rfl | rfl <;> rcases hb with rfl | rfl <;> decide
theorem or_bits {a b : Int} (ha : a = 0 ∨ a = 1) (hb : b = 0 ∨ b = 1) : Builtin.bitOr a b = if a = 1 ∨ b = 1 then 1 else 0 := by
  rcases ha with rfl | rfl <;> rcases hb with rfl | rfl <;> decide
theorem xor_bits {a b : Int} (ha : a = 0 ∨ a = 1) (hb : b = 0 ∨ b = 1) : Builtin.bitXor a b = (a + b) % 2 := by
  rcases ha with rfl | rfl <;> rcases hb with rfl | rfl <;> decide
theorem fold_and : ∀ (ns : List Int) {a : Int}, (a = 0 ∨ a = 1) → Bits ns → ns.foldl Builtin.bitAnd a = if a = 1 ∧ ns.all (· == 1) = true then 1 else 0
  | [], a, ha, _ => by rcases ha with rfl | rfl <;> decide
  | n :: ns, a, ha, b => by
    have hn := b n (.head _)
    have e := and_bits ha hn
    rw [List.foldl_cons, fold_and ns (by rw [e]; split <;> simp) fun z hz => b z (.tail _ hz), e]
    rcases ha with rfl | rfl <;> rcases hn with rfl | rfl <;> simp
theorem fold_or : ∀ (ns : List Int) {a : Int}, (a = 0 ∨ a = 1) → Bits ns → ns.foldl Builtin.bitOr a = if a = 1 ∨ ns.any (· == 1) = true then 1 else 0
  | [], a, ha, _ => by rcases ha with rfl | rfl <;> decide
  | n :: ns, a, ha, b => by
    have hn := b n (.head _)
    have e := or_bits ha hn
    rw [List.foldl_cons, fold_or ns (by rw [e]; split <;> simp) fun z hz => b z (.tail _ hz), e]
    rcases ha with rfl | rfl <;> rcases hn with rfl | rfl <;> simp
theorem fold_xor : ∀ (ns : List Int) {a : Int}, (a = 0 ∨ a = 1) → Bits ns → ns.foldl Builtin.bitXor a = (a + ns.sum) % 2
  | [], a, ha, _ => by rcases ha with rfl | rfl <;> decide
  | n :: ns, a, ha, b => by
    have hn := b n (.head _)
    have e := xor_bits ha hn
    rw [List.foldl_cons, fold_xor ns (by rw [e]; omega) fun z hz => b z (.tail _ hz), e, List.sum_cons]
    omega
theorem n_an : ("and" : Str) ≠ "not" := by decide +kernel
theorem n_ac : ("and" : Str) ≠ "choose" := by decide +kernel
theorem n_on : ("or" : Str) ≠ "not" := by decide +kernel
theorem n_oc : ("or" : Str) ≠ "choose" := by decide +kernel
theorem n_o1 : ("or" : Str) ≠ "one" := by decide +kernel
theorem n_dn : ("odd" : Str) ≠ "not" := by decide +kernel
theorem n_dc : ("odd" : Str) ≠ "choose" := by decide +kernel
theorem n_d1 : ("odd" : Str) ≠ "one" := by decide +kernel
theorem gateI_one {x : Str} {ns : List Int} (b : Bits ns) (h : legsOk x ns.length) : gateI 1 x ns = gateV x ns := by
  rcases h with ⟨h | h | h, l1, l2⟩ | ⟨h, l1⟩ | ⟨h, l1⟩ | ⟨h | h, l1⟩ <;> subst h <;> unfold gateI
  · rw [gv_and, if_neg n_an, if_neg n_ac, if_pos (.inl rfl)]
    simp only [if_pos]
    rw [fold_and ns (.inr rfl) b]
    simp
  · rw [gv_or, if_neg n_on, if_neg n_oc, if_neg (fun z => z.elim n_oa n_o1)]
    simp only [if_neg n_oa, if_pos]
    rw [fold_or ns (.inl rfl) b]
    simp
  · rw [gv_odd, if_neg n_dn, if_neg n_dc, if_neg (fun z => z.elim n_da n_d1)]
    simp only [if_neg n_da, if_neg n_do]
    rw [fold_xor ns (.inl rfl) b, Int.zero_add]
  · rw [gv_not, if_pos rfl]
    rcases getD_bit b (i := 0) (by omega) with e | e <;> rw [e] <;> decide
  · rw [gv_choose, if_neg n_cn, if_pos rfl]
    rcases getD_bit b (i := 0) (by omega) with e | e <;> rcases getD_bit b (i := 1) (by omega) with f | f <;> rcases getD_bit b (i := 2) (by omega) with g | g <;> rw [e, f, g] <;> decide
  · obtain rfl : ns = [] := List.length_eq_zero_iff.mp l1
    rw [gv_zero, if_neg n_zn, if_neg n_zc, if_neg (fun z => z.elim n_za n_z1)]
    rfl
  · obtain rfl : ns = [] := List.length_eq_zero_iff.mp l1
    rw [gv_one, if_neg n_1n, if_neg n_1c, if_pos (.inr rfl)]
    rfl
theorem gi_not (o : Int) (ns : List Int) : gateI o "not" ns = Builtin.bitXor o (ns.getD 0 0) := by unfold gateI; rw [if_pos rfl]
theorem gi_choose (o : Int) (ns : List Int) : gateI o "choose" ns = Builtin.bitOr (Builtin.bitAnd (ns.getD 0 0) (ns.getD 1 0)) (Builtin.bitAnd (Builtin.bitXor o (ns.getD 0 0)) (ns.getD 2 0)) := by unfold gateI; rw [if_neg n_cn, if_pos rfl]
theorem gi_fold {x : Str} (hn : x ≠ "not") (hc : x ≠ "choose") (o : Int) (ns : List Int) : gateI o x ns = ns.foldl (fun a b => if x = "and" then Builtin.bitAnd a b else if x = "or" then Builtin.bitOr a b else Builtin.bitXor a b) (if x = "and" ∨ x = "one" then o else 0) := by unfold gateI; rw [if_neg hn, if_neg hc]
theorem legs_not {n : Nat} (h : legsOk "not" n) : n = 1 := by
  rcases h with ⟨h | h | h, l1, l2⟩ | ⟨h, l1⟩ | ⟨h, l1⟩ | ⟨h | h, l1⟩ <;> first | exact l1 | exact absurd h (by decide +kernel)
theorem legs_choose {n : Nat} (h : legsOk "choose" n) : n = 3 := by
  rcases h with ⟨h | h | h, l1, l2⟩ | ⟨h, l1⟩ | ⟨h, l1⟩ | ⟨h | h, l1⟩ <;> first | exact l1 | exact absurd h (by decide +kernel)
theorem in_two (x a b : Str) : inV (.str x) [.str a, .str b] = decide (x = a ∨ x = b) := by
  show ((eqV (.str a) (.str x)) || ((eqV (.str b) (.str x)) || false)) = _
  have e : ∀ y z : Str, eqV (.str y) (.str z) = decide (z = y) := fun y z => by
    show (y == z) = _
    rw [Bool.eq_iff_iff, beq_iff_eq, decide_eq_true_eq]
    exact eq_comm
  rw [e, e, Bool.or_false]
  by_cases q : x = a <;> by_cases q2 : x = b <;> simp [q, q2]
end My
namespace L2
open PySem PySem.Spec PyProof.Rows
noncomputable def pairK (c : Nat) : List Int := [((c / 2 : Nat) : Int), ((c % 2 : Nat) : Int)]
noncomputable def pairH (c : Nat) : Int := reduceHash (Builtin.Tuple.tupleHashOf [hashInt ((c / 2 : Nat) : Int), hashInt ((c % 2 : Nat) : Int)])
noncomputable def tabAsk (te : SetTable × List Nat) (c : Nat) : Option SetTable.Met := te.1.probe (fun i => ((te.2[i]?).map pairH).getD 0) (pairH c) (te.1.probeStart (pairH c))
noncomputable def tabPut (te : SetTable × List Nat) (c j : Nat) : SetTable × List Nat := ((te.1.put j).1, te.2.take (te.1.put j).2 ++ c :: te.2.drop (te.1.put j).2)
noncomputable def tabStep (te : SetTable × List Nat) (c : Nat) : SetTable × List Nat :=
  match tabAsk te c with
  | some (.empty j none) => tabPut te c j
  | _ => te
noncomputable def tabAll (led : Bool) : List (SetTable × List Nat) :=
  let s0 := [((SetTable.fresh 0 0 led, []) : SetTable × List Nat)]
  let nx := fun (l : List (SetTable × List Nat)) => l.flatMap fun te => ([0, 1, 2, 3].filter fun c => !te.2.contains c).map fun c => tabStep te c
  s0 ++ nx s0 ++ nx (nx s0) ++ nx (nx (nx s0)) ++ nx (nx (nx (nx s0)))
noncomputable def entP (p : Nat × Addr) : Int × Value := (pairH p.1, .ref p.2)
noncomputable def esP (L : List (Nat × Addr)) : Array (Int × Value) := (L.map entP).toArray
noncomputable def PrSet (prog : Program) (w : World) (h : Heap) (S : Addr) (led : Bool) (t : SetTable) (L : List (Nat × Addr)) : Prop :=
  ∃ o ep, h.get? S = some o ∧ o.ExactSet ∧ o.data = .set (esP L) ep t ∧ (t, L.map Prod.fst) ∈ tabAll led ∧ ∀ p ∈ L, p.1 < 4 ∧ IsTupleKey (intKind prog w) h (pairK p.1) p.2
section
variable {prog : Program} {w : World} {A : Around} {E : Value → Shared → Prop} {s : Shared}
end
end L2
namespace L2
open PySem PySem.Spec PyProof.Rows
noncomputable def GotP (L xs : List (Nat × Addr)) : Prop := (∀ p ∈ L, p ∈ xs) ∧ (∀ x ∈ xs, x.1 ∈ L.map Prod.fst) ∧ (L.map Prod.fst).Nodup
theorem GotP.nil : GotP [] [] := ⟨fun _ h => h, fun _ h => (List.not_mem_nil h).elim, List.nodup_nil⟩
theorem GotP.old {L xs : List (Nat × Addr)} {x : Nat × Addr} (h : GotP L xs) (hm : x.1 ∈ L.map Prod.fst) : GotP L (xs ++ [x]) := by
  refine ⟨fun p hp => List.mem_append_left _ (h.1 p hp), fun y hy => ?_, h.2.2⟩
  rcases List.mem_append.mp hy with hy | hy
  · exact h.2.1 y hy
  · rw [List.mem_singleton.mp hy]; exact hm
theorem GotP.new {L L' xs : List (Nat × Addr)} {x : Nat × Addr} (h : GotP L xs) (hm : x.1 ∉ L.map Prod.fst) (p : List.Perm L' (x :: L)) : GotP L' (xs ++ [x]) := by
  refine ⟨fun q hq => ?_, fun y hy => ?_, ?_⟩
  · rcases List.mem_cons.mp (p.mem_iff.mp hq) with rfl | hq
    · exact List.mem_append_right _ (List.mem_singleton.mpr rfl)
    · exact List.mem_append_left _ (h.1 q hq)
  · refine (p.map Prod.fst).mem_iff.mpr ?_
    rcases List.mem_append.mp hy with hy | hy
    · exact List.mem_cons_of_mem _ (h.2.1 y hy)
    · rw [List.mem_singleton.mp hy]; exact List.mem_cons_self
  · exact (p.map Prod.fst).nodup_iff.mpr (List.nodup_cons.mpr ⟨hm, h.2.2⟩)
section
variable {prog : Program} {w : World}
theorem PrSet.keep {h h' : Heap} {I S : Addr} {led : Bool} {t : SetTable} {L : List (Nat × Addr)} (hm : PrSet prog w h S led t L) (hS : S ≠ I) (hI : ∃ oi, h.get? I = some oi ∧ oi.cls ≠ .type "tuple")
    (hk : ∀ b o, b ≠ I → h.get? b = some o → h'.get? b = some o) : PrSet prog w h' S led t L := by
  obtain ⟨o, ep, ho, hex, hd, htab, hall⟩ := hm
  obtain ⟨oi, e1, e2⟩ := hI
  refine ⟨o, ep, hk _ _ hS ho, hex, hd, htab, fun p hp => ⟨(hall p hp).1, ?_⟩⟩
  obtain ⟨o', it, n, e, c, r⟩ := (hall p hp).2
  refine ⟨o', it, n, hk _ _ (fun z => ?_) e, c, r⟩
  rw [z, e1] at e
  cases e
  exact e2 c
end
section
variable {prog : Program} {w : World} {A : Around} {R : Result → Shared → Prop}
end
section
variable {prog : Program} {w : World} {A : Around} {E : Value → Shared → Prop} {s : Shared}
end
end L2
namespace L2
open PySem PySem.Spec PyProof.Rows
noncomputable def SetIt (w : World) (h : Heap) (I S : Addr) (ep : Nat) (t : SetTable) (L : List (Nat × Addr)) (i : Nat) : Prop :=
  ∃ (o oS : Obj) (slot : Nat), h.get? I = some o ∧ o.cls = .type "set_iterator" ∧ o.data = .fields #[.int slot 0, .int i 0, .ref S, .int (L.length : Nat) 0, .int ep 0] ∧ (w.params.followText "set-order" = false → SetTable.below t.place slot = i) ∧
    h.get? S = some oS ∧ oS.data = .set (esP L) ep t
section
variable {prog : Program} {w : World} {A : Around} {E : Value → Shared → Prop} {s : Shared}
theorem SetIt.at {h h' : Heap} {I S : Addr} {ep : Nat} {t : SetTable} {L : List (Nat × Addr)} {i : Nat} (x : SetIt w h I S ep t L i) (hI : ∀ o, h.get? I = some o → h'.get? I = some o) (hS : ∀ o, h.get? S = some o → h'.get? S = some o) : SetIt w h' I S ep t L i := by
  obtain ⟨o, oS, slot, ho, hc, hd, hb, hoS, hdS⟩ := x
  exact ⟨o, oS, slot, hI _ ho, hc, hd, hb, hS _ hoS, hdS⟩
end
end L2
namespace L2
open PySem PySem.Spec PyProof.Rows
section
variable {prog : Program} {w : World} {A : Around} {E : Value → Shared → Prop} {s : Shared}
end
end L2
namespace L2
open PySem PySem.Spec PyProof.Rows
section
variable {prog : Program} {w : World} {A : Around} {E : Value → Shared → Prop} {s : Shared}
end
end L2
namespace L2
open PySem PySem.Spec PyProof.Rows
section
variable {prog : Program} {w : World} {A : Around} {E : Value → Shared → Prop} {s : Shared}
end
end L2
namespace L2
open PySem PySem.Spec PyProof.Rows
section
variable {X : Cx} {e : Expr} {te : TE} {p p' pos pos' : Pos} {xs xt : Str}
end
end L2
namespace L2
open PySem PySem.Spec PyProof.Rows
section
variable {prog : Program} {w : World} {A : Around} {E : Value → Shared → Prop} {s : Shared}
end
section
variable {X : Cx}
end
end L2
namespace My
open PySem L2
noncomputable def hiV (c : Nat) : Int := ((c / 2 : Nat) : Int)
noncomputable def loV (c : Nat) : Int := ((c % 2 : Nat) : Int)
theorem hi_bit {c : Nat} (h : c < 4) : hiV c = 0 ∨ hiV c = 1 := by
  have : c = 0 ∨ c = 1 ∨ c = 2 ∨ c = 3 := by omega
  rcases this with rfl | rfl | rfl | rfl <;> decide
theorem lo_bit {c : Nat} (h : c < 4) : loV c = 0 ∨ loV c = 1 := by
  have : c = 0 ∨ c = 1 ∨ c = 2 ∨ c = 3 := by omega
  rcases this with rfl | rfl | rfl | rfl <;> decide
inductive Chosen {α : Type} : List α → List (List α) → Prop
  | nil : Chosen [] []
  | cons {x : α} {r : List α} {l : List α} {ls : List (List α)} : x ∈ l → Chosen r ls → Chosen (x :: r) (l :: ls)
theorem Chosen.length {α : Type} {r : List α} {ls : List (List α)} (h : Chosen r ls) : r.length = ls.length := by
  induction h with
  | nil => rfl
  | cons _ _ ih => rw [List.length_cons, List.length_cons, ih]
theorem Chosen.snoc {α : Type} : ∀ {r : List α} {ls : List (List α)} {l : List α}, Chosen r (ls ++ [l]) ↔ ∃ a x, r = a ++ [x] ∧ Chosen a ls ∧ x ∈ l
  | r, [], l => by
    constructor
    · intro h
      cases h with
      | cons hx hr => cases hr; exact ⟨[], _, rfl, .nil, hx⟩
    · rintro ⟨a, x, rfl, ha, hx⟩
      cases ha
      exact .cons hx .nil
  | r, m :: ls, l => by
    constructor
    · intro h
      cases h with
      | cons hx hr =>
        obtain ⟨a, y, rfl, ha, hy⟩ := Chosen.snoc.mp hr
        exact ⟨_ :: a, y, rfl, .cons hx ha, hy⟩
    · rintro ⟨a, x, rfl, ha, hx⟩
      cases ha with
      | cons hy ha => exact .cons hy (Chosen.snoc.mpr ⟨_, x, rfl, ha, hx⟩)
noncomputable def Codes (cs : List Nat) : Prop := ∀ c ∈ cs, c < 4
theorem Chosen.codes {r : List Nat} {ls : List (List Nat)} (h : Chosen r ls) (hc : ∀ l ∈ ls, Codes l) : Codes r := by
  induction h with
  | nil => exact fun _ h => (List.not_mem_nil h).elim
  | cons hx _ ih =>
    intro c hm
    rcases List.mem_cons.mp hm with rfl | hm
    · exact hc _ List.mem_cons_self _ hx
    · exact ih (fun l hl => hc l (List.mem_cons_of_mem _ hl)) c hm
theorem Codes.hi {r : List Nat} (h : Codes r) : Bits (r.map hiV) := fun n hn => by
  obtain ⟨c, hc, rfl⟩ := List.mem_map.mp hn
  exact hi_bit (h c hc)
theorem Codes.lo {r : List Nat} (h : Codes r) : Bits (r.map loV) := fun n hn => by
  obtain ⟨c, hc, rfl⟩ := List.mem_map.mp hn
  exact lo_bit (h c hc)
end My
namespace L2
open PySem PySem.Spec PyProof.Rows
noncomputable def strsLook : List Str → List Value → Bool
  | [], [] => true
  | x :: xs, .str y _ :: vs => x == y && strsLook xs vs
  | _, _ => false
noncomputable def TupK (K : PySem.W.Frag) (a : Addr) (xs : List Str) : Prop := (match K.lookup a with
  | some o => o.cls == .type "tuple" && (match o.data with
    | .seq vs _ => strsLook xs vs.toList
    | _ => false)
  | none => false) = true
theorem strs_vals : ∀ {xs : List Str} {vs : List Value}, strsLook xs vs = true → Vals (xs.map V.str) vs
  | [], [], _ => .nil
  | x :: xs, v :: vs, h => by
    cases v with
    | str y t =>
      have h' : (x == y && strsLook xs vs) = true := h
      rw [Bool.and_eq_true] at h'
      have e : x = y := eq_of_beq h'.1
      subst e
      exact .cons ⟨t, rfl⟩ (strs_vals h'.2)
    | _ => simp [strsLook] at h
  | [], _ :: _, h => by simp [strsLook] at h
  | _ :: _, [], h => by simp [strsLook] at h
theorem TupK.sq {K : PySem.W.Frag} {H : Hp} {a : Addr} {xs : List Str} (h : TupK K a xs) (hz : xs.length ≤ 1000) : SqT K H a (xs.map V.str) := by
  unfold TupK at h
  cases e : K.lookup a with
  | none => rw [e] at h; cases h
  | some o =>
    rw [e] at h
    simp only [Bool.and_eq_true] at h
    obtain ⟨h1, h2⟩ := h
    cases ed : o.data with
    | seq vs n =>
      rw [ed] at h2
      have rv := strs_vals h2
      have lv := rv.length
      rw [List.length_map] at lv
      have lz : vs.size = xs.length := by rw [lv, Array.length_toList]
      have line : (1000 : Nat) ≤ sizeLine := by decide
      exact .inr ⟨o, vs, n, e, beq_iff_eq.mp h1, ed, by omega, rv⟩
    | _ => rw [ed] at h2; cases h2
end L2
namespace L2
open PySem PySem.Spec PyProof.Rows
section
variable {X : Cx} {o e : Expr} {apos cpos : Pos} {td ty : TE}
end
section
variable {X : Cx} {e : Expr} {te : TE} {p p' pos pos' : Pos}
end
end L2
namespace L2
open PySem PySem.Spec PyProof.Rows
open PySem.W (Dat kqdP kqdPs kqdOk)
section
variable {X : Cx}
open Classical in
end
section
variable {X : Cx} {K : PySem.W.Frag}
end
end L2
namespace My
open PySem L2
end My
namespace My
open PySem L2
end My
namespace L2
open PySem PySem.Spec PyProof.Rows
end L2
namespace L2
open PySem PySem.Spec PyProof.Rows
section
variable {prog : Program} {w : World} {A : Around} {E : Value → Shared → Prop} {s : Shared}
end
section
variable {g : TG} {tt : TT} {te : TE} {n0 : Nat} {cap : List Nat} {σ : St} {Q : VK} {D : Addr} {H1 : Hp}
end
end L2
namespace L2
open PySem PySem.Spec PyProof.Rows
end L2
namespace L2
open PySem PySem.Spec PyProof.Rows
noncomputable def Its (x : Str) : It := ⟨fun i _ => i < x.cps.size, fun i H v H' => H' = H ∧ ∃ c, x.cps[i]? = some c ∧ v = .str ⟨#[c]⟩, fun i _ => x.cps.size ≤ i⟩
theorem turn_str {P : Program} {w : World} {K : PySem.W.Frag} {tg : Expr} (it : Addr) (x : Str) (t : Tok) : Turn P w K tg (Its x) [it] it (fun i h => h.IsStrIter it "str_ascii_iterator" x t i) where
  mem := by simp
  obj := fun i h st b hb => by
    have e : b = it := by simpa using hb
    subst e
    obtain ⟨o, e, c, d⟩ := st
    exact ⟨o, e, fun v z => by rw [d] at z; cases z⟩
  keep := fun i h h' st k => by
    obtain ⟨o, e, c, d⟩ := st
    exact ⟨o, k it (by simp) o e, c, d⟩
  item := by
    intro X hP hw hK hc i pins s σ H E I hf st hg
    subst hP hw hK
    have hx : x.cps[i]? = some x.cps[i] := Array.getElem?_eq_getElem hg
    obtain ⟨f0, f1, f2, f3, f4, f5⟩ := hf it (by simp)
    refine wpAny_pyNext_ascii_item st hx fun h' st' sb => ?_
    have I1 : Inv X pins σ H { s with heap := h', toks := s.toks + 1 } := I.turned (t' := s.toks + 1) (fun b o hb e => (sb.2 b hb).trans e) f0 f1 f3 f4 f5
    obtain ⟨o, e, c, d⟩ := id st'
    exact ⟨_, rfl, go_of (s := { s with heap := h', toks := s.toks + 1 }) e c d (by decide) ⟨.str ⟨#[x.cps[i]]⟩, H, I1, ⟨_, rfl⟩, ⟨rfl, _, hx, rfl⟩, st', fun b hb => (hf b hb).1⟩⟩
  done := by
    intro X hP hw hK hc i pins s σ H E I hf st hg
    subst hP hw hK
    obtain ⟨f0, f1, f2, f3, f4, f5⟩ := hf it (by simp)
    exact wpAny_pyNext_ascii_end (I.ok.hd hc) st (Array.getElem?_eq_none hg) fun h' eb => ⟨rfl, I.turned (t' := s.toks) (fun b o hb e => eb b o hb e) f0 f1 f3 f4 f5⟩
  self := fun _ _ _ _ _ st h => wpAny_pyIter_striter_ascii st h
noncomputable def iStr (te : TE) : TI := fun σ H R => te σ H fun v H1 => ∃ x : Str, v = .str x ∧ x.cps.all (· < 128) = true ∧ R (Its x) H1
theorem pi_str {X : Cx} {tg e : Expr} {te : TE} (he : PE X e te) : PI X tg e (iStr te) := by
  intro pins s σ H R I h
  refine thn (he pins s σ H _ I h) fun v s1 ⟨y, H1, I1, r1, x, ex, ha, q⟩ => ?_
  subst ex
  obtain ⟨t, rfl⟩ := r1
  refine wpAny_pyIter_ascii ha ?_
  refine ⟨s1.heap.objs.size, [s1.heap.objs.size], _, _, H1, rfl, I1.kept (t' := s1.toks) fun b o e => Heap.get?_push_of_some _ e, turn_str _ x t, ⟨_, Heap.get?_push_size _ rfl, rfl, rfl⟩, fun b hb => ?_, q⟩
  have e : b = s1.heap.objs.size := by simpa using hb
  subst e
  exact I1.fpOk (Nat.le_refl _) (I1.hok.fresh (Nat.le_refl _))
theorem bpi_str {X : Cx} {tg e : Expr} {te : TE} (he : Bx (PE X e te)) : Bx (PI X tg e (iStr te)) := ⟨pi_str he.1⟩
theorem for_str {x : Str} {g : TG} {tb : TS} {D : Ends} {σ : St} {H : Hp} (Pv : Nat → St → Hp → Prop) (h0 : Pv 0 σ H)
    (hs : ∀ i c σ H, x.cps.toList[i]? = some c → Pv i σ H → g (.str ⟨#[c]⟩) σ H fun σ2 H2 => tb { D with nx := Pv (i + 1), ct := Pv (i + 1), bk := D.nx } σ2 H2) (hd : ∀ σ H, Pv x.cps.toList.length σ H → D.nx σ H) :
    ∃ W : Nat → Nat → St → Hp → Prop, (∃ m, W 0 m σ H) ∧ ∀ i m σ H, W i m σ H →
      ((Its x).stop i H ∧ D.nx σ H) ∨ ((Its x).go i H ∧ ∃ N : St → Hp → Prop, (∀ σ' H', N σ' H' → ∃ m', m' < m ∧ W (i + 1) m' σ' H') ∧ ∀ y H', (Its x).yld i H y H' → g y σ H' fun σ2 H2 => tb { D with nx := N, ct := N, bk := D.nx } σ2 H2) := by
  have es : x.cps.toList.length = x.cps.size := Array.length_toList
  refine ⟨fun i m σ H => m = x.cps.size - i ∧ i ≤ x.cps.size ∧ Pv i σ H, ⟨x.cps.size, by simp, Nat.zero_le _, h0⟩, ?_⟩
  rintro i m σ H ⟨rfl, hi, p⟩
  by_cases hlt : i < x.cps.size
  · refine .inr ⟨hlt, Pv (i + 1), fun σ' H' p' => ⟨x.cps.size - (i + 1), by omega, rfl, hlt, p'⟩, fun y H' z => ?_⟩
    obtain ⟨e, c, hc, rfl⟩ := z
    subst e
    exact hs i c σ _ (by rw [Array.getElem?_toList]; exact hc) p
  · have e : i = x.cps.size := by omega
    subst e
    exact .inl ⟨Nat.le_refl _, hd σ H (by rw [es]; exact p)⟩
theorem vals_strs : ∀ {zs : List Str} {us : List Value}, Vals (zs.map V.str) us → ∃ l : List (Str × Tok), us = strValues l ∧ l.map (·.1) = zs
  | [], us, h => by
    cases h
    exact ⟨[], rfl, rfl⟩
  | z :: zs, us, h => by
    cases h with
    | cons r t =>
      obtain ⟨tk, rfl⟩ := r
      obtain ⟨l, rfl, rfl⟩ := vals_strs t
      exact ⟨(z, tk) :: l, rfl, rfl⟩
theorem strs_from : ∀ (zs : List Str) (k : Nat), Vals (zs.map V.str) (strsFrom k zs)
  | [], _ => .nil
  | _ :: zs, k => .cons ⟨_, rfl⟩ (strs_from zs (k + 1))
noncomputable def rJoin : V → List V → Hp → VK → Prop := fun x vs H Q => ∃ (sep : Str) (l : Addr) (zs : List Str), x = .str sep ∧ vs = [.ref l] ∧ H l = some (.lst (zs.map V.str)) ∧ 1 ≤ zs.length ∧ (zs.map (·.length)).sum + zs.length * sep.length ≤ 100000 ∧ Q (.str (Str.join sep zs)) H
theorem mt_join {X : Cx} : MtR X "str.join" rJoin := by
  intro pins s σ H x vs v us Q I rx rv h
  obtain ⟨sep, l, zs, rfl, rfl, hH, h2, hz, q⟩ := h
  obtain ⟨tk, rfl⟩ := rx
  obtain ⟨u, rfl, ru⟩ := rv.one
  cases ru
  obtain ⟨z, its, n, r, hl, e⟩ := I.lstM hH
  obtain ⟨ps, rfl, ez⟩ := vals_strs r
  have tl : Builtin.Str.tooLong ((ps.map (·.1)).toArray.foldl (· + ·.length + sep.length) 0) = false := by
    rw [StrLaws.joinTotal, ez]
    have : sizeLine = 16777216 := by decide
    unfold Builtin.Str.tooLong
    rw [decide_eq_false (by omega)]
  refine call_meets F.slot_str_join (typeIs_str s sep tk) F.entry_str_join (F.args_str_join_2 _ _) (meets_str_join_list sep tk l ps tl) ⟨⟨_, e, rfl, n, rfl⟩, ?_⟩
  have lp : ps.length = zs.length := by rw [← ez, List.length_map]
  match ps, lp, ez with
  | p1 :: p2 :: ps, _, ez =>
    show (Made.str (Builtin.Str.glued sep ((p1 :: p2 :: ps).map (·.1)))).post _ s
    rw [ez, StrLaws.glued_eq_join]
    refine ⟨?_, ⟨.str _, H, I.tok _, ⟨_, rfl⟩, q⟩⟩
    have := StrLaws.join_length_le sep zs
    have sl : sizeLine = 16777216 := by decide
    omega
  | [], h, _ => exact absurd h2 (by rw [← h]; decide)
  | [p1], _, ez =>
    rw [← ez] at q
    exact ⟨.str p1.1, H, I, ⟨_, rfl⟩, q⟩
theorem parts_none (z : Str) (k : Nat) : Builtin.Str.partsBetween z [] k = [z] := by
  show [Builtin.Str.strSub z 0 z.length] = [z]
  congr 1
  cases z with
  | mk a => simp [Builtin.Str.strSub, Str.length]
noncomputable def rSplit : V → List V → Hp → VK → Prop := fun x vs H Q => ∃ (z y : Str), x = .str z ∧ vs = [.str y] ∧ (decide (z.length < y.length) || decide (Builtin.Str.strKind z < Builtin.Str.strKind y)) = false ∧ (y.length == 0) = false ∧ z.length ≤ 100000 ∧
  ∀ D, H D = none → Q (.ref D) (upd H D (.lst ((Builtin.Str.partsBetween z (Builtin.Str.occurrences z y 0 z.length (z.length + 1)) y.length).map V.str)))
theorem mt_split {X : Cx} : MtR X "str.split" rSplit := by
  intro pins s σ H x vs v us Q I rx rv h
  obtain ⟨z, y, rfl, rfl, h1, hy, hz, q⟩ := h
  obtain ⟨tk, rfl⟩ := rx
  obtain ⟨u, rfl, ru⟩ := rv.one
  obtain ⟨tu, rfl⟩ := ru
  have sl : sizeLine = 16777216 := by decide
  have hn : (Builtin.Str.partsBetween z (Builtin.Str.occurrences z y 0 z.length (z.length + 1)) y.length).length ≤ sizeLine := by
    rw [length_partsBetween]
    have := StrLaws.occ_length_le z y 0 z.length (z.length + 1)
    omega
  cases hf : (Builtin.Str.occurrences z y 0 z.length (z.length + 1)).isEmpty with
  | true =>
    have e0 : Builtin.Str.occurrences z y 0 z.length (z.length + 1) = [] := List.isEmpty_iff.mp hf
    rw [e0, parts_none] at q
    refine call_meets F.slot_str_split (typeIs_str s z tk) F.entry_str_split (F.args_str_split_2 _ _) (meets_str_split_not_found z y tk tu h1 hy hf) ?_
    refine ⟨.ref s.heap.objs.size, _, I.laid (t' := s.toks) (fun b u e => Heap.get?_push_of_some _ e) (Nat.le_refl _) ?_, rfl, q _ (I.hok.fresh (Nat.le_refl _))⟩
    exact ⟨(by show 1 ≤ sizeLine; decide), _, 0, .cons ⟨_, rfl⟩ .nil, Heap.get?_push_size _ rfl⟩
  | false =>
  refine call_meets F.slot_str_split (typeIs_str s z tk) F.entry_str_split (F.args_str_split_2 _ _) (meets_str_split_sep z y tk tu h1 hy hf (by omega) hn) ?_
  refine ⟨.ref s.heap.objs.size, _, I.laid (fun b u e => Heap.get?_push_of_some _ e) (Nat.le_refl _) ?_, rfl, q _ (I.hok.fresh (Nat.le_refl _))⟩
  exact ⟨by rw [List.length_map]; exact hn, _, 0, strs_from _ _, Heap.get?_push_size _ rfl⟩
theorem mt_index {X : Cx} : MtR X "str.index" (fun x vs H Q => ∃ (z y : Str) (i : Nat) (rest : List Nat), x = .str z ∧ vs = [.str y] ∧ Builtin.Str.occurrences z y 0 z.length 1 = i :: rest ∧ Q (.int (i : Int)) H) := by
  intro pins s σ H x vs v us Q I rx rv h
  obtain ⟨z, y, i, rest, rfl, rfl, h1, q⟩ := h
  obtain ⟨tk, rfl⟩ := rx
  obtain ⟨u, rfl, ru⟩ := rv.one
  obtain ⟨tu, rfl⟩ := ru
  refine call_gives F.slot_str_index (typeIs_str s z tk) F.entry_str_index (F.args_str_index_2 _ _) (gives_str_index z y tk tu i rest h1) ⟨.int _, H, I.tok _, ⟨_, rfl⟩, q⟩
end L2
namespace L2
open PySem PySem.Spec PyProof.Rows
end L2
namespace My
open PySem L2
open PySem.Builtin.Str (occurrences partsBetween strSub subAt)
noncomputable def joinL (c : Nat) : List (List Nat) → List Nat
  | [] => []
  | [p] => p
  | p :: q :: r => p ++ c :: joinL c (q :: r)
theorem occ_loop (z : Str) (c lim : Nat) : ∀ (k a : Nat) (st : Array Nat × Nat), st.2 ≤ a → st.1.size + k ≤ lim →
    (forIn (List.range' a k) st (StrLaws.occBody z ⟨#[c]⟩ z.length lim)).run.fst.toList = st.1.toList ++ (List.range' a k).filter fun i => decide (z.cps.toList[i]? = some c)
  | 0, a, st, _, _ => by simp
  | k + 1, a, st, hf, hs => by
    rw [List.range'_succ, List.forIn_cons]
    unfold StrLaws.occBody
    have key := StrLaws.subAt_one z c a
    by_cases h : z.cps.toList[a]? = some c
    · obtain ⟨h1, h2⟩ := key.mpr h
      rw [if_pos ⟨⟨⟨by omega, hf⟩, h1⟩, h2⟩, List.filter_cons_of_pos (by simpa using h)]
      have := occ_loop z c lim k (a + 1) (st.1.push a, a + 1) (Nat.le_refl _) (by simp; omega)
      refine Eq.trans this ?_
      simp
    · rw [if_neg (fun hc => h (key.mp ⟨hc.1.2, hc.2⟩)), List.filter_cons_of_neg (by simpa using h)]
      exact occ_loop z c lim k (a + 1) st (by omega) (by omega)
theorem occ_all (z : Str) (c : Nat) : occurrences z ⟨#[c]⟩ 0 z.length (z.length + 1) = (List.range' 0 (z.length + 1)).filter fun i => decide (z.cps.toList[i]? = some c) := by
  rw [StrLaws.occ_eq]
  have := occ_loop z c (z.length + 1) (z.length + 1) 0 (#[], 0) (Nat.le_refl _) (by simp)
  simpa using this
theorem strSub_at {z : Str} {pre p rest : List Nat} (e : z.cps.toList = pre ++ p ++ rest) : strSub z pre.length (pre.length + p.length) = ⟨p.toArray⟩ := by
  have h := StrLaws.strSub_toList z pre.length (pre.length + p.length)
  rw [e, List.append_assoc, List.drop_left, Nat.add_sub_cancel_left, List.take_left] at h
  cases hs : strSub z pre.length (pre.length + p.length) with
  | mk a =>
    rw [hs] at h
    congr 1
    exact Array.toList_inj.mp (by simpa using h)
theorem filter_none {c : Nat} {L pre p rest : List Nat} (e : L = pre ++ p ++ rest) (hp : c ∉ p) : (List.range' pre.length p.length).filter (fun i => decide (L[i]? = some c)) = [] := by
  refine List.filter_eq_nil_iff.mpr fun i hi => ?_
  have hr := List.mem_range'_1.mp hi
  rw [decide_eq_true_eq, e, List.append_assoc, List.getElem?_append_right (by omega), List.getElem?_append_left (by omega)]
  exact fun z => hp (List.mem_of_getElem? z)
theorem parts_from {z : Str} {c : Nat} : ∀ (parts : List (List Nat)) (pre : List Nat), parts ≠ [] → (∀ p ∈ parts, c ∉ p) → z.cps.toList = pre ++ joinL c parts →
    StrLaws.partsFrom z 1 pre.length ((List.range' pre.length (z.length + 1 - pre.length)).filter fun i => decide (z.cps.toList[i]? = some c)) = parts.map fun p => ⟨p.toArray⟩
  | [], _, h, _, _ => absurd rfl h
  | [p], pre, _, hc, e => by
    have e' : z.cps.toList = pre ++ p ++ [] := by rw [List.append_nil]; exact e
    have hl : z.length = pre.length + p.length := by
      have := congrArg List.length e
      rw [List.length_append] at this
      exact this
    rw [hl, show pre.length + p.length + 1 - pre.length = p.length + 1 by omega, List.range'_1_concat, List.filter_append, filter_none e' (hc p (.head _))]
    rw [List.filter_cons_of_neg (by
      rw [decide_eq_true_eq, List.getElem?_eq_none (by rw [e', List.append_nil, List.length_append]; exact Nat.le_refl _)]
      exact fun z => nomatch z)]
    show [strSub z pre.length z.length] = [_]
    rw [hl, strSub_at e']
  | p :: q :: r, pre, _, hc, e => by
    have e1 : z.cps.toList = pre ++ p ++ (c :: joinL c (q :: r)) := by rw [e, List.append_assoc]; rfl
    have e2 : z.cps.toList = (pre ++ p ++ [c]) ++ joinL c (q :: r) := by rw [e1, List.append_assoc (pre ++ p)]; rfl
    have l2 : (pre ++ p ++ [c]).length = pre.length + p.length + 1 := by rw [List.length_append, List.length_append]; rfl
    have hl : pre.length + p.length + 1 ≤ z.length := by
      have := congrArg List.length e2
      rw [List.length_append, l2] at this
      have h2 : z.cps.toList.length = z.length := rfl
      omega
    have ih := parts_from (q :: r) (pre ++ p ++ [c]) (fun h => nomatch h) (fun s hs => hc s (.tail _ hs)) e2
    rw [l2] at ih
    have split : List.range' pre.length (z.length + 1 - pre.length) = List.range' pre.length p.length ++ (pre.length + p.length) :: List.range' (pre.length + p.length + 1) (z.length + 1 - (pre.length + p.length + 1)) := by
      rw [show z.length + 1 - pre.length = p.length + (z.length + 1 - (pre.length + p.length + 1) + 1) by omega, ← List.range'_append_1, List.range'_succ]
    rw [split, List.filter_append, filter_none e1 (hc p (.head _)), List.filter_cons_of_pos (by
      rw [decide_eq_true_eq, e1, List.getElem?_append_right (by rw [List.length_append]; exact Nat.le_refl _), List.length_append, Nat.sub_self]
      rfl)]
    show strSub z pre.length (pre.length + p.length) :: StrLaws.partsFrom z 1 (pre.length + p.length + 1) _ = _
    rw [ih, strSub_at e1]
    rfl
theorem split_parts {z : Str} {c : Nat} {parts : List (List Nat)} (h : parts ≠ []) (hc : ∀ p ∈ parts, c ∉ p) (e : z.cps.toList = joinL c parts) :
    partsBetween z (occurrences z ⟨#[c]⟩ 0 z.length (z.length + 1)) (⟨#[c]⟩ : Str).length = parts.map fun p => ⟨p.toArray⟩ := by
  rw [occ_all, StrLaws.partsBetween_eq]
  exact parts_from parts [] h hc e
noncomputable def digs (n : Nat) : List Nat := (Nat.toDigits 10 n).map Char.toNat
theorem digit_nat {d : Nat} (h : d < 10) : (Nat.digitChar d).toNat = 48 + d := by
  match d, h with
  | 0, _ | 1, _ | 2, _ | 3, _ | 4, _ | 5, _ | 6, _ | 7, _ | 8, _ | 9, _ => rfl
theorem digs_step (n : Nat) : digs n = if n < 10 then [48 + n] else digs (n / 10) ++ [48 + n % 10] := by
  unfold digs
  by_cases h : n < 10
  · rw [if_pos h, Nat.toDigits_of_lt_base h, List.map_singleton, digit_nat h]
  · rw [if_neg h, Nat.toDigits_of_base_le (by decide) (by omega), List.map_append, List.map_singleton, digit_nat (Nat.mod_lt _ (by decide))]
theorem digs_ne (n : Nat) : digs n ≠ [] := by
  rw [digs_step]
  split <;> simp
theorem digs_in (n : Nat) : ∀ c ∈ digs n, 48 ≤ c ∧ c < 58 := by
  induction n using Nat.strongRecOn with
  | _ n ih =>
    rw [digs_step]
    split
    · intro c hc
      rw [List.mem_singleton.mp hc]
      omega
    · intro c hc
      rcases List.mem_append.mp hc with hc | hc
      · exact ih (n / 10) (by omega) c hc
      · rw [List.mem_singleton.mp hc]
        omega
noncomputable def readN (l : List Nat) : Nat := l.foldl (fun a c => a * 10 + (c - 48)) 0
theorem readN_snoc (l : List Nat) (c : Nat) : readN (l ++ [c]) = readN l * 10 + (c - 48) := by
  unfold readN
  rw [List.foldl_append]
  rfl
theorem read_digs (n : Nat) : readN (digs n) = n := by
  induction n using Nat.strongRecOn with
  | _ n ih =>
    rw [digs_step]
    split
    · show 0 * 10 + (48 + n - 48) = n
      omega
    · rw [readN_snoc, ih (n / 10) (by omega)]
      omega
theorem digs_first (n : Nat) : ∀ r, digs n = 48 :: r → r = [] := by
  induction n using Nat.strongRecOn with
  | _ n ih =>
    intro r e
    rw [digs_step] at e
    split at e
    · injection e with _ e
      exact e.symm
    · cases h : digs (n / 10) with
      | nil => exact absurd h (digs_ne _)
      | cons x l =>
        rw [h] at e
        injection e with e1 e2
        subst e1
        have l0 := ih (n / 10) (by omega) l h
        subst l0
        have := read_digs (n / 10)
        rw [h] at this
        have : n / 10 = 0 := this.symm
        omega
theorem digs_len (n : Nat) (k : Nat) : n < 10 ^ k → 1 ≤ k → (digs n).length ≤ k := by
  induction k generalizing n with
  | zero => intro _ h; exact absurd h (by decide)
  | succ k ih =>
    intro h _
    rw [digs_step]
    split
    · exact Nat.le_add_left _ _
    · rw [List.length_append, List.length_singleton]
      have h1 : n / 10 < 10 ^ k := by
        rw [Nat.pow_succ] at h
        omega
      have hk : 1 ≤ k := by
        rcases Nat.eq_zero_or_pos k with h0 | h0
        · subst h0
          have : n / 10 < 1 := h1
          omega
        · exact h0
      have := ih (n / 10) h1 hk
      omega
theorem str_digs (n : Nat) : (Str.ofString (toString (n : Int))).cps.toList = digs n := by
  have e : toString (n : Int) = String.ofList (Nat.toDigits 10 n) := by
    show (n : Int).repr = _
    rw [← Nat.repr_eq_ofList_toDigits]
    rfl
  rw [e, Str.ofString_eq_toList]
  simp [digs]
end My
set_option exponentiation.threshold 3000
namespace My
open PySem L2
open PySem.W (Dat kqdP kqdPs kqdOk)
noncomputable def tab_LEG_BOUNDS : List (Str × PyProof.Rows.KTD.Dat) := [("and", .tup ([2, 4].map PyData.int)), ("or", .tup ([2, 4].map PyData.int)), ("odd", .tup ([2, 4].map PyData.int)), ("not", .tup ([1, 1].map PyData.int)), ("choose", .tup ([3, 3].map PyData.int)), ("zero", .tup ([0, 0].map PyData.int)), ("one", .tup ([0, 0].map PyData.int))]
theorem lenV1 {us : List Value} (h : us.length = 1) : ∃ x0, us = [x0] := match us, h with | [x0], _ => ⟨x0, rfl⟩
theorem lenV2 {us : List Value} (h : us.length = 2) : ∃ x0 x1, us = [x0, x1] := match us, h with | [x0, x1], _ => ⟨x0, x1, rfl⟩
theorem lenV3 {us : List Value} (h : us.length = 3) : ∃ x0 x1 x2, us = [x0, x1, x2] := match us, h with | [x0, x1, x2], _ => ⟨x0, x1, x2, rfl⟩
noncomputable def top (i : Nat) : Stmt := PySem.Challenge.pw_stuckwires_k64_whole_texts_tell_apart.main.body.getD i (.Pass ⟨0, 0, 0, 0⟩)
noncomputable abbrev s_works_of : Stmt := top 7
noncomputable abbrev s_check_gate : Stmt := top 8
noncomputable abbrev s_is_kind : Stmt := top 9
noncomputable abbrev s_are_wires_below : Stmt := top 10
noncomputable abbrev s_wire_worths : Stmt := top 11
noncomputable abbrev s_every_row : Stmt := top 12
noncomputable abbrev s_check_row : Stmt := top 13
noncomputable abbrev s_gate_worth : Stmt := top 14
noncomputable abbrev s_show_works : Stmt := top 17
noncomputable abbrev s_show_fault : Stmt := top 18
noncomputable abbrev s_read_works : Stmt := top 19
noncomputable abbrev s_read_fault : Stmt := top 20
noncomputable abbrev s_shown_row : Stmt := top 21
noncomputable abbrev s_read_row : Stmt := top 22
noncomputable abbrev s_read_number : Stmt := top 23
noncomputable abbrev s_every_fault : Stmt := top 25
noncomputable abbrev s_law_stir : Stmt := top 27
noncomputable abbrev s_law_deck : Stmt := top 28
noncomputable abbrev s_law_take : Stmt := top 29
noncomputable abbrev s_law_legs : Stmt := top 30
noncomputable abbrev s_law_works : Stmt := top 31
noncomputable abbrev s_law_others : Stmt := top 33
noncomputable abbrev s_law_row_more : Stmt := top 34
noncomputable abbrev s_law : Stmt := top 35
set_option genInjectivity false
structure Def (K : PySem.W.Frag) (mg : Str → Option Value) (x : Str) (st : Stmt) (ps : List Str) (f : Addr) (fd : FuncData) : Prop where
  F : Fun K x x st f fd
  b : Binds K fd ps []
  m : mg x = some (.ref f)
structure DefD (K : PySem.W.Frag) (mg : Str → Option Value) (x : Str) (st : Stmt) (ps : List Str) (f : Addr) (fd : FuncData) (T : Addr) (tk : Tok) : Prop where
  F : FunD K x x st f fd T
  b : Binds K fd ps []
  b1 : Binds K fd ps [.int 1 tk]
  m : mg x = some (.ref f)
structure Adr where
  f_works_of : Addr
  fd_works_of : FuncData
  f_check_gate : Addr
  fd_check_gate : FuncData
  f_is_kind : Addr
  fd_is_kind : FuncData
  f_are_wires_below : Addr
  fd_are_wires_below : FuncData
  f_wire_worths : Addr
  fd_wire_worths : FuncData
  f_every_row : Addr
  fd_every_row : FuncData
  f_check_row : Addr
  fd_check_row : FuncData
  f_gate_worth : Addr
  fd_gate_worth : FuncData
  dt_gate_worth : Addr
  tk_gate_worth : Tok
  f_show_works : Addr
  fd_show_works : FuncData
  f_show_fault : Addr
  fd_show_fault : FuncData
  f_read_works : Addr
  fd_read_works : FuncData
  f_read_fault : Addr
  fd_read_fault : FuncData
  f_shown_row : Addr
  fd_shown_row : FuncData
  f_read_row : Addr
  fd_read_row : FuncData
  f_read_number : Addr
  fd_read_number : FuncData
  f_every_fault : Addr
  fd_every_fault : FuncData
  f_law_stir : Addr
  fd_law_stir : FuncData
  f_law_deck : Addr
  fd_law_deck : FuncData
  f_law_take : Addr
  fd_law_take : FuncData
  f_law_legs : Addr
  fd_law_legs : FuncData
  f_law_works : Addr
  fd_law_works : FuncData
  f_law_others : Addr
  fd_law_others : FuncData
  f_law_row_more : Addr
  fd_law_row_more : FuncData
  f_law : Addr
  fd_law : FuncData
  c_LEG_BOUNDS : Addr
  k_FIGURES : Tok
structure Txt (K : PySem.W.Frag) (mg : Str → Option Value) (t : Adr) : Prop where
  d_works_of : Def K mg "works_of" s_works_of ["inputs", "gates", "outputs"] t.f_works_of t.fd_works_of
  d_check_gate : Def K mg "check_gate" s_check_gate ["kind", "legs", "own_wire"] t.f_check_gate t.fd_check_gate
  d_is_kind : Def K mg "is_kind" s_is_kind ["word"] t.f_is_kind t.fd_is_kind
  d_are_wires_below : Def K mg "are_wires_below" s_are_wires_below ["numbers", "bound"] t.f_are_wires_below t.fd_are_wires_below
  d_wire_worths : Def K mg "wire_worths" s_wire_worths ["works", "row"] t.f_wire_worths t.fd_wire_worths
  d_every_row : Def K mg "every_row" s_every_row ["works"] t.f_every_row t.fd_every_row
  d_check_row : Def K mg "check_row" s_check_row ["works", "row"] t.f_check_row t.fd_check_row
  d_gate_worth : DefD K mg "gate_worth" s_gate_worth ["kind", "worths", "ones"] t.f_gate_worth t.fd_gate_worth t.dt_gate_worth t.tk_gate_worth
  d_show_works : Def K mg "show_works" s_show_works ["works"] t.f_show_works t.fd_show_works
  d_show_fault : Def K mg "show_fault" s_show_fault ["fault"] t.f_show_fault t.fd_show_fault
  d_read_works : Def K mg "read_works" s_read_works ["text"] t.f_read_works t.fd_read_works
  d_read_fault : Def K mg "read_fault" s_read_fault ["text"] t.f_read_fault t.fd_read_fault
  d_shown_row : Def K mg "shown_row" s_shown_row ["word", "numbers"] t.f_shown_row t.fd_shown_row
  d_read_row : Def K mg "read_row" s_read_row ["row"] t.f_read_row t.fd_read_row
  d_read_number : Def K mg "read_number" s_read_number ["text"] t.f_read_number t.fd_read_number
  d_every_fault : Def K mg "every_fault" s_every_fault ["works"] t.f_every_fault t.fd_every_fault
  d_law_stir : Def K mg "_law_stir" s_law_stir ["cell", "k"] t.f_law_stir t.fd_law_stir
  d_law_deck : Def K mg "_law_deck" s_law_deck ["cell"] t.f_law_deck t.fd_law_deck
  d_law_take : Def K mg "_law_take" s_law_take ["deck", "many"] t.f_law_take t.fd_law_take
  d_law_legs : Def K mg "_law_legs" s_law_legs ["deck", "kind"] t.f_law_legs t.fd_law_legs
  d_law_works : Def K mg "_law_works" s_law_works ["deck", "most"] t.f_law_works t.fd_law_works
  d_law_others : Def K mg "_law_others" s_law_others ["deck", "works"] t.f_law_others t.fd_law_others
  d_law_row_more : Def K mg "_law_row_more" s_law_row_more ["works", "other"] t.f_law_row_more t.fd_law_row_more
  d_law : Def K mg "law" s_law ["script"] t.f_law t.fd_law
  z_all : mg "all" = none
  z_enumerate : mg "enumerate" = none
  z_len : mg "len" = none
  z_list : mg "list" = none
  z_range : mg "range" = none
  z_str : mg "str" = none
  z_tuple : mg "tuple" = none
  g_LEG_BOUNDS : mg "LEG_BOUNDS" = some (.ref t.c_LEG_BOUNDS)
  k_LEG_BOUNDS : TabK K t.c_LEG_BOUNDS tab_LEG_BOUNDS
  g_FIGURES : mg "FIGURES" = some (.str "0123456789" t.k_FIGURES)

noncomputable def sp_stir : Sp := fun vs H Q _ => ∃ (c k : Int), vs = [.int c, .int k] ∧ (k = 1 ∨ k = 2 ∨ k = 3) ∧ ∀ r : Int, 0 ≤ r → r < 10 ^ 62 → Q (.int r) H
noncomputable def sp_deck : Sp := fun vs H Q _ => ∃ c : Int, vs = [.int c] ∧ ∀ (p : Addr) (n : Int), H p = none → Q (.ref p) (upd H p (.lst [.int n]))
noncomputable def sp_take : Sp := fun vs H Q _ => ∃ (p : Addr) (n m : Int), vs = [.ref p, .int m] ∧ H p = some (.lst [.int n]) ∧ 0 < m ∧ m < 1073741824 ∧ ∀ r n' : Int, 0 ≤ r → r < m → Q (.int r) (upd H p (.lst [.int n']))
noncomputable def isKind (x : Str) : Prop := x = "and" ∨ x = "or" ∨ x = "odd" ∨ x = "not" ∨ x = "choose" ∨ x = "zero" ∨ x = "one"
noncomputable def sp_legs : Sp := fun vs H Q _ => ∃ (p : Addr) (n : Int) (x : Str), vs = [.ref p, .str x] ∧ H p = some (.lst [.int n]) ∧ isKind x ∧
  ∀ (r : Nat) (n' : Int) (H' : Hp), legsOk x r → SameB p H H' → H' p = some (.lst [.int n']) → Q (.int r) H'
noncomputable def sp_works (K : PySem.W.Frag) : Sp := fun vs H Q _ => ∃ (p : Addr) (n : Int) (most : Nat), vs = [.ref p, .int most] ∧ H p = some (.lst [.int n]) ∧ most ≤ 20 ∧
  ∀ (w : Works) (r : Addr) (n' : Int) (G H' : Hp), WF most w → SameB p H H' → H' p = some (.lst [.int n']) → Same G H' → G p = none → (∀ b o, G b = some o → H b = none) → Rep K G (.ref r) (worksD w) → Q (.ref r) H'
noncomputable def sp_law (K : PySem.W.Frag) : Sp := fun vs H Q _ => ∃ (a : Addr) (ns : List Int), vs = [.ref a] ∧ SqL K H a (ns.map V.int) ∧ ns.length ≤ 63 ∧ ∀ H', Q (.bl true) H'

noncomputable def sp_gw (K : PySem.W.Frag) : Sp := fun vs H Q _ => ∃ (x : Str) (p : Addr) (ns : List Int), vs = [.str x, .ref p, .int 1] ∧ SqL K H p (ns.map V.int) ∧ Bits ns ∧ legsOk x ns.length ∧ ∀ H', Same H H' → Q (.int (gateV x ns)) H'
noncomputable def sp_gwI (K : PySem.W.Frag) : Sp := fun vs H Q _ => ∃ (x : Str) (p : Addr) (ns : List Int) (o : Int), vs = [.str x, .ref p, .int o] ∧ SqL K H p (ns.map V.int) ∧ legsOk x ns.length ∧ ∀ H', Same H H' → Q (.int (gateI o x ns)) H'
noncomputable def sp_cr (K : PySem.W.Frag) : Sp := fun vs H Q _ => ∃ (a ga oa p : Addr) (i : Int) (row : List Int), vs = [.ref a, .ref p] ∧ SqT K H a [.int i, .ref ga, .ref oa] ∧ SqL K H p (row.map V.int) ∧ (row.length : Int) = i ∧ Bits row ∧ row.length ≤ 100 ∧ ∀ H', Same H H' → Q .non H'
noncomputable def sp_ww (K : PySem.W.Frag) : Sp := fun vs H Q _ => ∃ (x : V) (p : Addr) (w : Works) (row : List Int), vs = [x, .ref p] ∧ Rep K H x (worksD w) ∧ WF 20 w ∧ SqL K H p (row.map V.int) ∧ (row.length : Int) = w.ins ∧ Bits row ∧
  ∀ (r : Addr) (H' : Hp), Same H H' → H r = none → H' r = some (.lst ((wiresV w.gates row w.gates.length).map V.int)) → Q (.ref r) H'
noncomputable def sp_er (K : PySem.W.Frag) : Sp := fun vs H Q _ => ∃ (a ga oa : Addr) (i : Int), vs = [.ref a] ∧ SqT K H a [.int i, .ref ga, .ref oa] ∧ 0 ≤ i ∧ i ≤ 6 ∧ ∀ (R : Addr) (qs : List Addr) (H' : Hp), Rows H R qs (rowsV i.toNat) H' → Q (.ref R) H'
noncomputable def sp_faults (K : PySem.W.Frag) : Sp := fun vs H Q _ => ∃ (x : V) (w : Works), vs = [x] ∧ Rep K H x (worksD w) ∧ WF 20 w ∧ ∀ (r : Addr) (xs : List V) (H' : Hp), Bld K H r xs (faultsD w) H' → Q (.ref r) H'
noncomputable def sp_awb (K : PySem.W.Frag) : Sp := fun vs H Q _ => ∃ (p : Addr) (bnd : Int) (ns : List Int), vs = [.ref p, .int bnd] ∧ (SqL K H p (ns.map V.int) ∨ SqT K H p (ns.map V.int)) ∧ ns.length ≤ 1000 ∧ ∀ H', Same H H' → Q (.bl (ns.all fun n => decide (0 ≤ n ∧ n < bnd))) H'
noncomputable def sp_ik (K : PySem.W.Frag) : Sp := fun vs H Q _ => ∃ x : Str, vs = [.str x] ∧ Q (.bl (PyProof.Rows.KTD.inKeys x tab_LEG_BOUNDS)) H
noncomputable def sp_cg (K : PySem.W.Frag) : Sp := fun vs H Q _ => ∃ (x : Str) (la : Addr) (own : Int) (ls : List Int), vs = [.str x, .ref la, .int own] ∧ SqT K H la (ls.map V.int) ∧ legsOk x ls.length ∧ (∀ l ∈ ls, 0 ≤ l ∧ l < own) ∧ ∀ H', Same H H' → Q .non H'
noncomputable def sp_wo (K : PySem.W.Frag) : Sp := fun vs H Q _ => ∃ (w : Works) (ga oa : Addr) (gs os : List V), vs = [.int w.ins, .ref ga, .ref oa] ∧ SqL K H ga gs ∧ SqL K H oa os ∧ Reps K H gs (w.gates.map gateD) ∧ Reps K H os (w.outs.map .int) ∧ WF 20 w ∧
  ∀ (r g o : Addr) (H' : Hp), Same H H' → H r = none → H g = none → H o = none → g ≠ o → g ≠ r → o ≠ r → H' g = some (.lst gs) → H' o = some (.lst os) → H' r = some (.tup [.int w.ins, .ref g, .ref o]) → Q (.ref r) H'
structure Rwt where
  word : Str
  ns : List Int
structure Rwt.Ok (f : Rwt) : Prop where
  clean : ∀ c ∈ f.word.cps.toList, c ≠ 32 ∧ c ≠ 10 ∧ c < 128
  short : f.word.length ≤ 10
  some_ : 1 ≤ f.word.length
  num : ∀ n ∈ f.ns, 0 ≤ n ∧ n < 10 ^ 41
  few : f.ns.length ≤ 60
noncomputable def partsW (f : Rwt) : List (List Nat) := f.word.cps.toList :: f.ns.map fun n => digs n.toNat
noncomputable def rowL (f : Rwt) : List Nat := joinL 32 (partsW f)
noncomputable def txtW (f : Rwt) : Str := ⟨(rowL f).toArray⟩
theorem parts_clean {f : Rwt} (h : f.Ok) : ∀ p ∈ partsW f, 32 ∉ p := fun p hp => by
  rcases List.mem_cons.mp hp with rfl | hp
  · exact fun z => (h.clean _ z).1 rfl
  · obtain ⟨n, _, rfl⟩ := List.mem_map.mp hp
    intro z
    have := digs_in _ _ z
    omega
theorem joinL_mem {c x : Nat} : ∀ {ps : List (List Nat)}, x ∈ joinL c ps → x = c ∨ ∃ p ∈ ps, x ∈ p
  | [], h => nomatch h
  | [p], h => .inr ⟨p, .head _, h⟩
  | p :: q :: r, h => by
    rcases List.mem_append.mp (show x ∈ p ++ c :: joinL c (q :: r) from h) with h | h
    · exact .inr ⟨p, .head _, h⟩
    · rcases List.mem_cons.mp h with h | h
      · exact .inl h
      · rcases joinL_mem h with h | ⟨s, hs, hx⟩
        · exact .inl h
        · exact .inr ⟨s, .tail _ hs, hx⟩
theorem row_clean {f : Rwt} (h : f.Ok) : ∀ c ∈ rowL f, c ≠ 10 ∧ c < 128 := fun c hc => by
  rcases joinL_mem hc with rfl | ⟨p, hp, hx⟩
  · decide
  · rcases List.mem_cons.mp hp with rfl | hp
    · exact (h.clean _ hx).2
    · obtain ⟨n, _, rfl⟩ := List.mem_map.mp hp
      have := digs_in _ _ hx
      omega
theorem digs_short {n : Int} (h : 0 ≤ n ∧ n < 10 ^ 41) : (digs n.toNat).length ≤ 41 := digs_len _ 41 (by
  have h2 := h.2
  have e : (10 : Int) ^ 41 = ((10 ^ 41 : Nat) : Int) := by decide +kernel
  rw [e] at h2
  omega) (by decide)
theorem joinL_len (c : Nat) : ∀ ps : List (List Nat), (joinL c ps).length ≤ (ps.map List.length).sum + ps.length
  | [] => Nat.le_refl _
  | [p] => by
    show p.length ≤ _
    simp
  | p :: q :: r => by
    have ih := joinL_len c (q :: r)
    show (p ++ c :: joinL c (q :: r)).length ≤ _
    rw [List.length_append, List.length_cons]
    rw [List.map_cons, List.sum_cons, List.length_cons]
    omega
theorem str_of {z : Str} {l : List Nat} (h : z.cps.toList = l) : z = ⟨l.toArray⟩ := by
  cases z with
  | mk a =>
    congr 1
    exact Array.toList_inj.mp (by simpa using h)
theorem tl (l : List Nat) : (⟨l.toArray⟩ : Str).cps.toList = l := by simp
noncomputable def numS (n : Int) : Str := Str.ofString (toString n)
theorem numS_cps {n : Int} (h : 0 ≤ n) : (numS n).cps.toList = digs n.toNat := by
  have := str_digs n.toNat
  rw [Int.toNat_of_nonneg h] at this
  exact this
theorem log_ok {n : Int} (h : 0 ≤ n ∧ n < 10 ^ 41) : n.natAbs.log2 < 1920 := by
  by_cases z : n.natAbs = 0
  · rw [z]
    decide
  · refine (Nat.log2_lt z).mpr ?_
    have e : (10 : Int) ^ 41 < ((2 ^ 140 : Nat) : Int) := by decide +kernel
    have h2 : n.natAbs < 2 ^ 140 := by omega
    exact Nat.lt_of_lt_of_le h2 (Nat.pow_le_pow_right (by decide) (by decide))
theorem join_cps (sep : Nat) : ∀ zs : List Str, (Str.join ⟨#[sep]⟩ zs).cps.toList = joinL sep (zs.map fun z => z.cps.toList)
  | [] => rfl
  | [z] => rfl
  | z :: y :: r => by
    have ih := join_cps sep (y :: r)
    show ((z ++ ⟨#[sep]⟩ ++ Str.join ⟨#[sep]⟩ (y :: r)) : Str).cps.toList = z.cps.toList ++ sep :: joinL sep ((y :: r).map fun z => z.cps.toList)
    rw [← ih]
    show ((z.cps ++ #[sep]) ++ (Str.join ⟨#[sep]⟩ (y :: r)).cps).toList = _
    rw [Array.toList_append, Array.toList_append, List.append_assoc]
    rfl
theorem blank : Str.ofString " " = ⟨#[32]⟩ := by decide +kernel
theorem partsS {f : Rwt} (ok : f.Ok) : (f.word :: f.ns.map numS).map (fun z => z.cps.toList) = partsW f := by
  unfold partsW
  rw [List.map_cons, List.map_map]
  congr 1
  exact List.map_congr_left fun n hn => numS_cps (ok.num n hn).1
theorem join_txt {f : Rwt} (ok : f.Ok) : Str.join (Str.ofString " ") (f.word :: f.ns.map numS) = txtW f := by
  unfold txtW
  refine str_of ?_
  rw [blank, join_cps, partsS ok]
  rfl
theorem numS_len {n : Int} (h : 0 ≤ n ∧ n < 10 ^ 41) : (numS n).length ≤ 41 := by
  show (numS n).cps.size ≤ 41
  rw [← Array.length_toList, numS_cps h.1]
  exact digs_short h
theorem sum_le {α : Type} {g : α → Nat} {k : Nat} : ∀ {l : List α}, (∀ a ∈ l, g a ≤ k) → (l.map g).sum ≤ l.length * k
  | [], _ => Nat.zero_le _
  | a :: l, h => by
    have h1 := h a (.head _)
    have h2 := sum_le (l := l) fun b hb => h b (.tail _ hb)
    rw [List.map_cons, List.sum_cons, List.length_cons, Nat.succ_mul]
    omega
theorem row_len {f : Rwt} (ok : f.Ok) : (rowL f).length ≤ 3000 := by
  have l3 := ok.few
  have hw := ok.short
  have hs := sum_le (g := fun n : Int => (digs n.toNat).length) (k := 41) (l := f.ns) fun n hn => digs_short (ok.num n hn)
  have hj := joinL_len 32 (partsW f)
  unfold rowL
  unfold partsW at hj ⊢
  rw [List.map_cons, List.sum_cons, List.length_cons, List.length_map, List.map_map] at hj
  have hw' : f.word.cps.toList.length ≤ 10 := by rw [Array.length_toList]; exact hw
  have hs' : (f.ns.map (List.length ∘ fun n : Int => digs n.toNat)).sum ≤ f.ns.length * 41 := hs
  omega
theorem row_some {f : Rwt} (ok : f.Ok) : 1 ≤ (rowL f).length := by
  have h1 : 1 ≤ f.word.cps.toList.length := by rw [Array.length_toList]; exact ok.some_
  unfold rowL partsW
  cases f.ns with
  | nil => exact h1
  | cons n r =>
    show 1 ≤ (f.word.cps.toList ++ _).length
    rw [List.length_append]
    omega
theorem cut_one (v : V) (xs : List V) : cutV (v :: xs) (some 1) none = xs := by
  have e1 : HT.sIx (v :: xs).length 0 (some 1) = 1 := by
    simp only [HT.sIx]
    rw [if_neg (by decide), List.length_cons]
    exact Nat.min_eq_left (Nat.le_add_left _ _)
  have e2 : HT.sIx (v :: xs).length (v :: xs).length none = (v :: xs).length := rfl
  unfold cutV
  rw [e1, e2, List.drop_one, List.tail_cons]
  exact List.take_of_length_le (by simp)
theorem part_one (v : V) (xs : List V) : ¬ (HT.sIx (v :: xs).length 0 (some 1) = 0 ∧ HT.sIx (v :: xs).length (v :: xs).length none = (v :: xs).length) := by
  have e1 : HT.sIx (v :: xs).length 0 (some 1) = 1 := by
    simp only [HT.sIx]
    rw [if_neg (by decide), List.length_cons]
    exact Nat.min_eq_left (Nat.le_add_left _ _)
  rw [e1]
  exact fun h => absurd h.1 (by decide)
theorem fold_le (r : List Nat) : ∀ a : Nat, a ≤ r.foldl (fun a c => a * 10 + (c - 48)) a := by
  induction r with
  | nil => exact fun a => Nat.le_refl _
  | cons c r ih =>
    intro a
    exact Nat.le_trans (by omega) (ih (a * 10 + (c - 48)))
theorem readN_le (l r : List Nat) : readN l ≤ readN (l ++ r) := by
  unfold readN
  rw [List.foldl_append]
  exact fold_le r _
theorem fig_occ : ∀ d, d < 10 → PySem.Builtin.Str.occurrences (Str.ofString "0123456789") ⟨#[48 + d]⟩ 0 (Str.ofString "0123456789").length 1 = [d] := by decide +kernel
theorem fig_at {c : Nat} (h : 48 ≤ c ∧ c < 58) : PySem.Builtin.Str.occurrences (Str.ofString "0123456789") ⟨#[c]⟩ 0 (Str.ofString "0123456789").length 1 = [c - 48] := by
  have := fig_occ (c - 48) (by omega)
  rw [show 48 + (c - 48) = c by omega] at this
  exact this
theorem joinX {α : Type} {A : Prop} {C : α → Hp → Prop} {st : α → St} {P : St → Hp → Prop} (h : (∀ v H4, C v H4 → P (st v) H4) → A) (r : ∀ v H4, C v H4 → P (st v) H4) : A := h r
noncomputable def sp_shr (K : PySem.W.Frag) : Sp := fun vs H Q _ => ∃ (f : Rwt) (p : Addr), vs = [.str f.word, .ref p] ∧ f.Ok ∧ (SqL K H p (f.ns.map V.int) ∨ SqT K H p (f.ns.map V.int)) ∧ ∀ H', Same H H' → Q (.str (txtW f)) H'
noncomputable def sp_rdn : Sp := fun vs H Q _ => ∃ n : Nat, vs = [.str ⟨(digs n).toArray⟩] ∧ n < 10 ^ 41 ∧ Q (.int n) H
noncomputable def sp_rdr : Sp := fun vs H Q _ => ∃ f : Rwt, vs = [.str (txtW f)] ∧ f.Ok ∧ ∀ (r q : Addr) (H' : Hp), Same H H' → H r = none → H q = none → H' r = some (.tup [.str f.word, .ref q]) → H' q = some (.tup (f.ns.map V.int)) → Q (.ref r) H'
theorem in_ok {i : Int} (h : 1 ≤ i ∧ i ≤ 6) : (⟨"in", [i]⟩ : Rwt).Ok := ⟨by
    intro c hc
    rw [show (Str.ofString "in").cps.toList = [105, 110] by decide +kernel] at hc
    rcases List.mem_cons.mp hc with rfl | hc
    · decide
    · rw [List.mem_singleton.mp hc]
      decide, (by show (Str.ofString "in").length ≤ 10; decide +kernel), (by show 1 ≤ (Str.ofString "in").length; decide +kernel), fun n hn => by
    rw [List.mem_singleton.mp hn]
    have : (6 : Int) < 10 ^ 41 := by decide
    omega, by show 1 ≤ 60; decide⟩
theorem clean_word {x : Str} {l : List Nat} (e : x.cps.toList = l) (h : (l.all fun c => decide (c ≠ 32 ∧ c ≠ 10 ∧ c < 128)) = true) : ∀ c ∈ x.cps.toList, c ≠ 32 ∧ c ≠ 10 ∧ c < 128 := fun c hc => by
  rw [e] at hc
  exact of_decide_eq_true (List.all_eq_true.mp h c hc)
theorem kind_of {x : Str} {n : Nat} (h : legsOk x n) : isKind x := by
  unfold legsOk at h
  unfold isKind
  rcases h with ⟨h | h | h, _⟩ | ⟨h, _⟩ | ⟨h, _⟩ | ⟨h | h, _⟩ <;> simp [h]
theorem kind_clean {x : Str} (h : isKind x) : (∀ c ∈ x.cps.toList, c ≠ 32 ∧ c ≠ 10 ∧ c < 128) ∧ x.length ≤ 10 ∧ 1 ≤ x.length := by
  unfold isKind at h
  rcases h with rfl | rfl | rfl | rfl | rfl | rfl | rfl
  · exact ⟨clean_word (l := [97, 110, 100]) (by decide +kernel) (by decide), by decide +kernel, by decide +kernel⟩
  · exact ⟨clean_word (l := [111, 114]) (by decide +kernel) (by decide), by decide +kernel, by decide +kernel⟩
  · exact ⟨clean_word (l := [111, 100, 100]) (by decide +kernel) (by decide), by decide +kernel, by decide +kernel⟩
  · exact ⟨clean_word (l := [110, 111, 116]) (by decide +kernel) (by decide), by decide +kernel, by decide +kernel⟩
  · exact ⟨clean_word (l := [99, 104, 111, 111, 115, 101]) (by decide +kernel) (by decide), by decide +kernel, by decide +kernel⟩
  · exact ⟨clean_word (l := [122, 101, 114, 111]) (by decide +kernel) (by decide), by decide +kernel, by decide +kernel⟩
  · exact ⟨clean_word (l := [111, 110, 101]) (by decide +kernel) (by decide), by decide +kernel, by decide +kernel⟩
theorem wire_small {m : Nat} {w : Works} (wf : WF m w) (hm : m ≤ 20) {n : Int} (h : 0 ≤ n ∧ n < w.ins + w.gates.length) : 0 ≤ n ∧ n < 10 ^ 41 := by
  have : (30 : Int) < 10 ^ 41 := by decide
  have := wf.i6
  have := wf.few
  omega
theorem gate_ok {w : Works} (wf : WF 20 w) {k : Nat} {g : Str × List Int} (h : w.gates[k]? = some g) : (⟨g.1, g.2⟩ : Rwt).Ok := by
  obtain ⟨lk, ll⟩ := wf.legs k g h
  obtain ⟨a, b, c⟩ := kind_clean (kind_of lk)
  have hk := (List.getElem?_eq_some_iff.mp h).1
  refine ⟨a, b, c, fun n hn => wire_small wf (Nat.le_refl _) ?_, ?_⟩
  · have := ll n hn
    omega
  · have := lk.le
    show g.2.length ≤ 60
    omega
theorem out_ok {w : Works} (wf : WF 20 w) : (⟨"out", w.outs⟩ : Rwt).Ok := ⟨clean_word (l := [111, 117, 116]) (by show (Str.ofString "out").cps.toList = _; decide +kernel) (by decide), (by show (Str.ofString "out").length ≤ 10; decide +kernel), (by show 1 ≤ (Str.ofString "out").length; decide +kernel), fun n hn => wire_small wf (Nat.le_refl _) (wf.outs n hn), by
    have := wf.o3
    show w.outs.length ≤ 60
    omega⟩
noncomputable def gatesR (gs : List (Str × List Int)) : List Rwt := gs.map fun g => ⟨g.1, g.2⟩
noncomputable def rowsW (w : Works) : List Rwt := ⟨"in", [w.ins]⟩ :: (gatesR w.gates ++ [⟨"out", w.outs⟩])
theorem rows_ok {w : Works} (wf : WF 20 w) : ∀ f ∈ rowsW w, f.Ok := fun f hf => by
  rcases List.mem_cons.mp hf with rfl | hf
  · exact in_ok ⟨wf.i1, wf.i6⟩
  · rcases List.mem_append.mp hf with hf | hf
    · obtain ⟨g, hg, rfl⟩ := List.mem_map.mp hf
      obtain ⟨k, hk⟩ := List.getElem?_of_mem hg
      exact gate_ok wf hk
    · rw [List.mem_singleton.mp hf]
      exact out_ok wf
theorem rows_many {w : Works} (wf : WF 20 w) : (rowsW w).length ≤ 22 := by
  have := wf.few
  unfold rowsW gatesR
  rw [List.length_cons, List.length_append, List.length_map, List.length_singleton]
  omega
noncomputable def textW (w : Works) : Str := ⟨(joinL 10 ((rowsW w).map rowL)).toArray⟩
theorem feed : Str.ofString "\n" = ⟨#[10]⟩ := by decide +kernel
theorem join_text (w : Works) : Str.join (Str.ofString "\n") ((rowsW w).map txtW) = textW w := by
  unfold textW
  refine str_of ?_
  rw [feed, join_cps, List.map_map]
  exact congrArg (joinL 10) (List.map_congr_left fun f _ => tl _)
theorem txt_len {f : Rwt} (ok : f.Ok) : (txtW f).length ≤ 3000 := by show (rowL f).toArray.size ≤ 3000; rw [List.size_toArray]; exact row_len ok
theorem text_sum {w : Works} (wf : WF 20 w) : (((rowsW w).map txtW).map (·.length)).sum + ((rowsW w).map txtW).length * (Str.ofString "\n").length ≤ 100000 := by
  have hs := sum_le (g := fun z : Str => z.length) (k := 3000) (l := (rowsW w).map txtW) fun z hz => by
    obtain ⟨f, hf, rfl⟩ := List.mem_map.mp hz
    exact txt_len (rows_ok wf f hf)
  rw [List.length_map] at hs ⊢
  have := rows_many wf
  rw [feed]
  show _ + (rowsW w).length * 1 ≤ _
  omega
theorem text_len {w : Works} (wf : WF 20 w) : (textW w).length ≤ 100000 := by
  rw [← join_text]
  exact Nat.le_trans (StrLaws.join_length_le _ _) (text_sum wf)
theorem rowL_clean {w : Works} (wf : WF 20 w) : ∀ p ∈ (rowsW w).map rowL, 10 ∉ p := fun p hp => by
  obtain ⟨f, hf, rfl⟩ := List.mem_map.mp hp
  exact fun z => (row_clean (rows_ok wf f hf) _ z).1 rfl
theorem text_split {w : Works} (wf : WF 20 w) : PySem.Builtin.Str.partsBetween (textW w) (PySem.Builtin.Str.occurrences (textW w) ⟨#[10]⟩ 0 (textW w).length ((textW w).length + 1)) (⟨#[10]⟩ : Str).length = (rowsW w).map txtW := by
  have := split_parts (z := textW w) (c := 10) (parts := (rowsW w).map rowL) (fun z => nomatch z) (rowL_clean wf) (tl _)
  rw [this, List.map_map]
  rfl
theorem row_split {f : Rwt} (ok : f.Ok) : PySem.Builtin.Str.partsBetween (txtW f) (PySem.Builtin.Str.occurrences (txtW f) ⟨#[32]⟩ 0 (txtW f).length ((txtW f).length + 1)) (⟨#[32]⟩ : Str).length = (partsW f).map fun p => ⟨p.toArray⟩ := split_parts (z := txtW f) (fun z => nomatch z) (parts_clean ok) (tl _)
theorem digs_inj {a b : Nat} (h : digs a = digs b) : a = b := by rw [← read_digs a, ← read_digs b, h]
theorem mk_inj {a b : List Nat} (h : (⟨a.toArray⟩ : Str) = ⟨b.toArray⟩) : a = b := by
  have := congrArg (fun z : Str => z.cps.toList) h
  rw [tl, tl] at this
  exact this
theorem row_inj {f g : Rwt} (hf : f.Ok) (hg : g.Ok) (e : txtW f = txtW g) : f = g := by
  have h := row_split hf
  rw [e, row_split hg] at h
  have h2 : partsW g = partsW f := (List.map_inj_right (f := fun p : List Nat => (⟨p.toArray⟩ : Str)) (fun _ _ z => mk_inj z)).mp h
  unfold partsW at h2
  obtain ⟨h3, h4⟩ := List.cons.inj h2
  have hw : f.word = g.word := by rw [str_of (z := f.word) h3.symm, str_of (z := g.word) rfl]
  have hn : f.ns = g.ns := by
    have key : ∀ (as bs : List Int), (∀ n ∈ as, 0 ≤ n) → (∀ n ∈ bs, 0 ≤ n) → bs.map (fun n => digs n.toNat) = as.map (fun n => digs n.toNat) → as = bs := by
      intro as
      induction as with
      | nil => intro bs _ _ h; cases bs with | nil => rfl | cons b bs => cases h
      | cons a as ih =>
        intro bs ha hb h
        cases bs with
        | nil => cases h
        | cons b bs =>
          obtain ⟨h1, h2⟩ := List.cons.inj h
          have h1' := digs_inj h1
          have := ha a (.head _)
          have := hb b (.head _)
          rw [show a = b by omega, ih bs (fun n hn => ha n (.tail _ hn)) (fun n hn => hb n (.tail _ hn)) h2]
    exact key f.ns g.ns (fun n hn => (hf.num n hn).1) (fun n hn => (hg.num n hn).1) h4
  cases f
  cases g
  cases hw
  cases hn
  rfl
theorem text_inj {w v : Works} (hw : WF 20 w) (hv : WF 20 v) (e : textW w = textW v) : w = v := by
  have h := text_split hw
  rw [e, text_split hv] at h
  have key : ∀ (as bs : List Rwt), (∀ f ∈ as, f.Ok) → (∀ f ∈ bs, f.Ok) → as.map txtW = bs.map txtW → as = bs := by
    intro as
    induction as with
    | nil => intro bs _ _ h; cases bs with | nil => rfl | cons b bs => cases h
    | cons a as ih =>
      intro bs ha hb h
      cases bs with
      | nil => cases h
      | cons b bs =>
        obtain ⟨h1, h2⟩ := List.cons.inj h
        rw [row_inj (ha a (.head _)) (hb b (.head _)) h1, ih bs (fun n hn => ha n (.tail _ hn)) (fun n hn => hb n (.tail _ hn)) h2]
  have h2 := key _ _ (rows_ok hv) (rows_ok hw) h
  unfold rowsW at h2
  obtain ⟨h3, h4⟩ := List.cons.inj h2
  have hi : v.ins = w.ins := by
    have := congrArg Rwt.ns h3
    exact (List.cons.inj this).1
  have hl := congrArg List.length h4
  rw [List.length_append, List.length_append, List.length_singleton, List.length_singleton] at hl
  obtain ⟨h5, h6⟩ := List.append_inj h4 (by omega)
  have ho : v.outs = w.outs := congrArg Rwt.ns (List.cons.inj h6).1
  have hg : v.gates = w.gates := (List.map_inj_right (f := fun g : Str × List Int => (⟨g.1, g.2⟩ : Rwt)) (fun a b z => by
    have z1 := congrArg Rwt.word z
    have z2 := congrArg Rwt.ns z
    exact Prod.ext z1 z2)).mp h5
  cases w
  cases v
  cases hi
  cases ho
  cases hg
  rfl
noncomputable def newsOf (G H H' : Hp) : Hp := fun b => match H b with
  | none => H' b
  | some _ => G b
theorem newsOf_new {G H H' : Hp} {b : Addr} (h : H b = none) : newsOf G H H' b = H' b := by unfold newsOf; rw [h]
theorem newsOf_same {G H H' : Hp} (f : Same G H) : Same G (newsOf G H H') := fun b o e => by unfold newsOf; rw [f _ _ e]; exact e
theorem newsOf_off {M : List Addr} {G H H' : Hp} (f : Off M G H) (s : Same H H') : Off M (newsOf G H H') H' := by
  refine ⟨fun b o e => ?_, fun m hm => ?_, fun m hm => ?_⟩
  · unfold newsOf at e
    cases hb : H b with
    | none => rw [hb] at e; exact e
    | some u => rw [hb] at e; exact s _ _ (f.same _ _ e)
  · obtain ⟨o, e⟩ := f.there m hm
    unfold newsOf
    rw [e]
    exact f.out m hm
  · obtain ⟨o, e⟩ := f.there m hm
    exact ⟨o, s _ _ e⟩
noncomputable def rwD (f : Rwt) : Dat := .tuple [.str f.word, .tuple (f.ns.map .int)]
theorem rw_at {K : PySem.W.Frag} {H : Hp} {f : Rwt} {x : V} (h : Rep K H x (rwD f)) : ∃ a la, x = .ref a ∧ SqT K H a [.str f.word, .ref la] ∧ SqT K H la (f.ns.map V.int) := gate_at (g := (f.word, f.ns)) h
theorem rows_D (w : Works) : (rowsW w).map rwD = rwD ⟨"in", [w.ins]⟩ :: (w.gates.map gateD ++ [rwD ⟨"out", w.outs⟩]) := by
  unfold rowsW gatesR
  rw [List.map_cons, List.map_append, List.map_map]
  rfl
theorem reps_split {K : PySem.W.Frag} {H : Hp} : ∀ {as bs : List Dat} {vs : List V}, Reps K H vs (as ++ bs) → ∃ xs ys, vs = xs ++ ys ∧ Reps K H xs as ∧ Reps K H ys bs := by
  intro as
  induction as with
  | nil => intro bs vs h; exact ⟨[], vs, rfl, .nil, h⟩
  | cons a as ih =>
    intro bs vs h
    cases h with
    | cons h t =>
      obtain ⟨xs, ys, rfl, h1, h2⟩ := ih t
      exact ⟨_ :: xs, ys, rfl, .cons h h1, h2⟩
theorem cut_inner (a b : V) (xs : List V) : cutV (a :: (xs ++ [b])) (some 1) (some (-1)) = xs := by
  have e1 : HT.sIx (a :: (xs ++ [b])).length 0 (some 1) = 1 := by
    simp only [HT.sIx]
    rw [if_neg (by decide), List.length_cons]
    exact Nat.min_eq_left (Nat.le_add_left _ _)
  have e2 : HT.sIx (a :: (xs ++ [b])).length (a :: (xs ++ [b])).length (some (-1)) = xs.length + 1 := by
    simp only [HT.sIx]
    rw [if_pos (by decide), List.length_cons, List.length_append, List.length_singleton]
    omega
  unfold cutV
  rw [e1, e2, List.drop_one, List.tail_cons, Nat.add_sub_cancel, List.take_left]
noncomputable def sp_shw (K : PySem.W.Frag) : Sp := fun vs H Q _ => ∃ (x : V) (w : Works), vs = [x] ∧ Rep K H x (worksD w) ∧ WF 20 w ∧ ∀ H', Same H H' → Q (.str (textW w)) H'
noncomputable def sp_rdw (K : PySem.W.Frag) : Sp := fun vs H Q _ => ∃ w : Works, vs = [.str (textW w)] ∧ WF 20 w ∧ ∀ (r g o : Addr) (gs os : List V) (H' : Hp), Same H H' → H r = none → H g = none → H o = none → g ≠ o → g ≠ r → o ≠ r → H' g = some (.lst gs) → H' o = some (.lst os) → H' r = some (.tup [.int w.ins, .ref g, .ref o]) → Reps K H' gs (w.gates.map gateD) → Reps K H' os (w.outs.map .int) → Q (.ref r) H'
structure FOk (f : Rwt) : Prop where
  ok : f.Ok
  form : (f.word = "wire" ∧ f.ns.length = 2) ∨ (f.word = "leg" ∧ f.ns.length = 3)
  last : ∃ b, f.ns.getLast? = some b ∧ (b = 0 ∨ b = 1)
noncomputable def wfO (f : Rwt) : HO := .tup (.str f.word :: f.ns.map V.int)
noncomputable def wfD (f : Rwt) : Dat := .tuple (.str f.word :: f.ns.map .int)
noncomputable def sp_shf (K : PySem.W.Frag) : Sp := fun vs H Q _ => ∃ (f : Rwt) (p : Addr), vs = [.ref p] ∧ f.Ok ∧ SqT K H p (.str f.word :: f.ns.map V.int) ∧ ∀ H', Same H H' → Q (.str (txtW f)) H'
noncomputable def sp_rdf : Sp := fun vs H Q _ => ∃ f : Rwt, vs = [.str (txtW f)] ∧ FOk f ∧ ∀ (r : Addr) (H' : Hp), Same H H' → H' r = some (wfO f) → Q (.ref r) H'
theorem map_intD {as bs : List Int} (h : as.map Dat.int = bs.map Dat.int) : as = bs := (List.map_inj_right (f := Dat.int) (fun _ _ h => Dat.int.inj h)).mp h
theorem gateD_inj {a b : Str × List Int} (h : gateD a = gateD b) : a = b := by
  have h1 : [Dat.str a.1, .tuple (a.2.map .int)] = [Dat.str b.1, .tuple (b.2.map .int)] := Dat.tuple.inj h
  obtain ⟨h2, h3⟩ := List.cons.inj h1
  exact Prod.ext (Dat.str.inj h2) (map_intD (Dat.tuple.inj (List.cons.inj h3).1))
theorem worksD_inj {w v : Works} (h : worksD w = worksD v) : w = v := by
  have h1 : [Dat.int w.ins, .list (w.gates.map gateD), .list (w.outs.map .int)] = [Dat.int v.ins, .list (v.gates.map gateD), .list (v.outs.map .int)] := Dat.tuple.inj h
  obtain ⟨h2, h3⟩ := List.cons.inj h1
  obtain ⟨h4, h5⟩ := List.cons.inj h3
  have hi := Dat.int.inj h2
  have hg := (List.map_inj_right (f := gateD) (fun _ _ h => gateD_inj h)).mp (Dat.list.inj h4)
  have ho := map_intD (Dat.list.inj (List.cons.inj h5).1)
  cases w
  cases v
  cases hi
  cases hg
  cases ho
  rfl
noncomputable def wireR (i b : Int) : Rwt := ⟨"wire", [i, b]⟩
noncomputable def legR (k i b : Int) : Rwt := ⟨"leg", [k, i, b]⟩
theorem wireR_ok {i b : Int} (h : 0 ≤ i ∧ i < 10 ^ 41) (hb : b = 0 ∨ b = 1) : FOk (wireR i b) := ⟨⟨clean_word (l := [119, 105, 114, 101]) (by show (Str.ofString "wire").cps.toList = _; decide +kernel) (by decide), (by show (Str.ofString "wire").length ≤ 10; decide +kernel), (by show 1 ≤ (Str.ofString "wire").length; decide +kernel), fun n hn => by
    rcases List.mem_cons.mp hn with rfl | hn
    · exact h
    · rw [List.mem_singleton.mp hn]
      have : (2 : Int) < 10 ^ 41 := by decide
      omega, by show 2 ≤ 60; decide⟩, .inl ⟨rfl, rfl⟩, b, rfl, hb⟩
theorem legR_ok {k i b : Int} (h : 0 ≤ k ∧ k < 10 ^ 41) (h2 : 0 ≤ i ∧ i < 10 ^ 41) (hb : b = 0 ∨ b = 1) : FOk (legR k i b) := ⟨⟨clean_word (l := [108, 101, 103]) (by show (Str.ofString "leg").cps.toList = _; decide +kernel) (by decide), (by show (Str.ofString "leg").length ≤ 10; decide +kernel), (by show 1 ≤ (Str.ofString "leg").length; decide +kernel), fun n hn => by
    rcases List.mem_cons.mp hn with rfl | hn
    · exact h
    · rcases List.mem_cons.mp hn with rfl | hn
      · exact h2
      · rw [List.mem_singleton.mp hn]
        have : (2 : Int) < 10 ^ 41 := by decide
        omega, by show 3 ≤ 60; decide⟩, .inr ⟨rfl, rfl⟩, b, rfl, hb⟩
noncomputable def wiresR : Nat → List Rwt
  | 0 => []
  | n + 1 => wiresR n ++ [wireR n 0, wireR n 1]
noncomputable def legsR (k : Int) : Nat → List Rwt
  | 0 => []
  | n + 1 => legsR k n ++ [legR k n 0, legR k n 1]
noncomputable def gatesFR (gs : List (Str × List Int)) : Nat → List Rwt
  | 0 => []
  | n + 1 => gatesFR gs n ++ legsR n ((gs[n]?.map fun g => g.2.length).getD 0)
noncomputable def faultsR (w : Works) : List Rwt := wiresR (w.ins.toNat + w.gates.length) ++ gatesFR w.gates w.gates.length
theorem wiresR_D : ∀ n, (wiresR n).map wfD = wiresF n
  | 0 => rfl
  | n + 1 => by rw [wiresR, List.map_append, wiresR_D n]; rfl
theorem legsR_D (k : Int) : ∀ n, (legsR k n).map wfD = legsF k n
  | 0 => rfl
  | n + 1 => by rw [legsR, List.map_append, legsR_D k n]; rfl
theorem gatesFR_D (gs : List (Str × List Int)) : ∀ n, (gatesFR gs n).map wfD = gatesF gs n
  | 0 => rfl
  | n + 1 => by rw [gatesFR, List.map_append, gatesFR_D gs n, legsR_D]; rfl
theorem faultsR_D (w : Works) : (faultsR w).map wfD = faultsD w := by unfold faultsR faultsD; rw [List.map_append, wiresR_D, gatesFR_D]
theorem wiresR_mem : ∀ {n : Nat} {f : Rwt}, f ∈ wiresR n → ∃ (i : Nat) (b : Int), i < n ∧ (b = 0 ∨ b = 1) ∧ f = wireR i b
  | n + 1, f, h => by
    rcases List.mem_append.mp h with h | h
    · obtain ⟨i, b, hi, hb, e⟩ := wiresR_mem h
      exact ⟨i, b, by omega, hb, e⟩
    · rcases List.mem_cons.mp h with h | h
      · exact ⟨n, 0, by omega, .inl rfl, h⟩
      · exact ⟨n, 1, by omega, .inr rfl, List.mem_singleton.mp h⟩
theorem legsR_mem {k : Int} : ∀ {n : Nat} {f : Rwt}, f ∈ legsR k n → ∃ (i : Nat) (b : Int), i < n ∧ (b = 0 ∨ b = 1) ∧ f = legR k i b
  | n + 1, f, h => by
    rcases List.mem_append.mp h with h | h
    · obtain ⟨i, b, hi, hb, e⟩ := legsR_mem h
      exact ⟨i, b, by omega, hb, e⟩
    · rcases List.mem_cons.mp h with h | h
      · exact ⟨n, 0, by omega, .inl rfl, h⟩
      · exact ⟨n, 1, by omega, .inr rfl, List.mem_singleton.mp h⟩
theorem gatesFR_mem {gs : List (Str × List Int)} : ∀ {n : Nat} {f : Rwt}, f ∈ gatesFR gs n → ∃ (k i : Nat) (b : Int), k < n ∧ i < ((gs[k]?.map fun g => g.2.length).getD 0) ∧ (b = 0 ∨ b = 1) ∧ f = legR k i b
  | n + 1, f, h => by
    rcases List.mem_append.mp h with h | h
    · obtain ⟨k, i, b, hk, hi, hb, e⟩ := gatesFR_mem h
      exact ⟨k, i, b, by omega, hi, hb, e⟩
    · obtain ⟨i, b, hi, hb, e⟩ := legsR_mem h
      exact ⟨n, i, b, by omega, hi, hb, e⟩
theorem wireR_inj {i j b c : Int} (h : wireR i b = wireR j c) : i = j ∧ b = c := by
  have := congrArg Rwt.ns h
  have h1 : [i, b] = [j, c] := this
  exact ⟨(List.cons.inj h1).1, (List.cons.inj (List.cons.inj h1).2).1⟩
theorem legR_inj {k l i j b c : Int} (h : legR k i b = legR l j c) : k = l ∧ i = j ∧ b = c := by
  have := congrArg Rwt.ns h
  have h1 : [k, i, b] = [l, j, c] := this
  exact ⟨(List.cons.inj h1).1, (List.cons.inj (List.cons.inj h1).2).1, (List.cons.inj (List.cons.inj (List.cons.inj h1).2).2).1⟩
theorem two_nd {α : Type} {xs : List α} {a b : α} (h : xs.Nodup) (ha : a ∉ xs) (hb : b ∉ xs) (ab : a ≠ b) : (xs ++ [a, b]).Nodup := by
  refine List.nodup_append.mpr ⟨h, List.nodup_cons.mpr ⟨fun z => ab (List.mem_singleton.mp z), List.nodup_cons.mpr ⟨(fun z => nomatch z), List.nodup_nil⟩⟩, fun x hx y hy e => ?_⟩
  rcases List.mem_cons.mp hy with rfl | hy
  · exact ha (e ▸ hx)
  · rw [List.mem_singleton.mp hy] at e
    exact hb (e ▸ hx)
theorem wiresR_nd : ∀ n, (wiresR n).Nodup
  | 0 => List.nodup_nil
  | n + 1 => two_nd (wiresR_nd n) (fun h => by
      obtain ⟨i, b, hi, _, e⟩ := wiresR_mem h
      have := (wireR_inj e).1
      omega) (fun h => by
      obtain ⟨i, b, hi, _, e⟩ := wiresR_mem h
      have := (wireR_inj e).1
      omega) (fun e => absurd (wireR_inj e).2 (by decide))
theorem legsR_nd (k : Int) : ∀ n, (legsR k n).Nodup
  | 0 => List.nodup_nil
  | n + 1 => two_nd (legsR_nd k n) (fun h => by
      obtain ⟨i, b, hi, _, e⟩ := legsR_mem h
      have := (legR_inj e).2.1
      omega) (fun h => by
      obtain ⟨i, b, hi, _, e⟩ := legsR_mem h
      have := (legR_inj e).2.1
      omega) (fun e => absurd (legR_inj e).2.2 (by decide))
theorem gatesFR_nd (gs : List (Str × List Int)) : ∀ n, (gatesFR gs n).Nodup
  | 0 => List.nodup_nil
  | n + 1 => List.nodup_append.mpr ⟨gatesFR_nd gs n, legsR_nd _ _, fun x hx y hy e => by
      obtain ⟨k, i, b, hk, _, _, e1⟩ := gatesFR_mem hx
      obtain ⟨j, c, _, _, e2⟩ := legsR_mem hy
      rw [e1, e2] at e
      have := (legR_inj e).1
      omega⟩
theorem faultsR_nd (w : Works) : (faultsR w).Nodup := List.nodup_append.mpr ⟨wiresR_nd _, gatesFR_nd _ _, fun x hx y hy e => by
  obtain ⟨i, b, _, _, e1⟩ := wiresR_mem hx
  obtain ⟨k, j, c, _, _, _, e2⟩ := gatesFR_mem hy
  rw [e1, e2] at e
  have h1 : (Str.ofString "wire") = Str.ofString "leg" := congrArg Rwt.word e
  exact absurd h1 (by decide +kernel)⟩
theorem faultsR_ok {w : Works} (wf : WF 20 w) : ∀ f ∈ faultsR w, FOk f := fun f hf => by
  have t : (1000 : Int) < 10 ^ 41 := by decide
  have := wf.i6
  have := wf.few
  rcases List.mem_append.mp hf with h | h
  · obtain ⟨i, b, hi, hb, rfl⟩ := wiresR_mem h
    exact wireR_ok ⟨by omega, by omega⟩ hb
  · obtain ⟨k, i, b, hk, hi, hb, rfl⟩ := gatesFR_mem h
    obtain ⟨g, hg⟩ : ∃ g, w.gates[k]? = some g := ⟨_, List.getElem?_eq_getElem hk⟩
    rw [hg] at hi
    have hi' : i < g.2.length := hi
    have := (wf.legs k g hg).1.le
    exact legR_ok ⟨by omega, by omega⟩ ⟨by omega, by omega⟩ hb
noncomputable def moreW (w : Works) (g : Str × List Int) : Works := ⟨w.ins, w.gates ++ [g], w.outs ++ [w.ins + w.gates.length]⟩
noncomputable def oneW (w : Works) (g : Str × List Int) : Works := ⟨w.ins, w.gates ++ [g], w.outs⟩
noncomputable def revW (w : Works) : Works := ⟨w.ins, w.gates, w.outs.reverse⟩
noncomputable def movG (g : Str × List Int) : Str × List Int := (g.1, g.2.map (· + 1))
noncomputable def movW (w : Works) : Works := ⟨w.ins + 1, w.gates.map movG, w.outs.map (· + 1)⟩
structure GoodNew (w : Works) (g : Str × List Int) : Prop where
  legs : legsOk g.1 g.2.length
  low : ∀ l ∈ g.2, 0 ≤ l ∧ l < w.ins + w.gates.length
theorem oneW_wf {w : Works} {g : Str × List Int} (wf : WF 10 w) (gn : GoodNew w g) : WF 20 (oneW w g) := by
  have few := wf.few
  have lg : (oneW w g).gates.length = w.gates.length + 1 := by show (w.gates ++ [g]).length = _; rw [List.length_append]; rfl
  refine ⟨wf.i1, wf.i6, by omega, fun k g' e => ?_, wf.o1, Nat.le_trans wf.o3 (by omega), fun o ho => ?_⟩
  · have e' : (w.gates ++ [g])[k]? = some g' := e
    by_cases h : k < w.gates.length
    · rw [List.getElem?_append_left h] at e'
      exact wf.legs k g' e'
    · rw [List.getElem?_append_right (by omega)] at e'
      have hk : k = w.gates.length := by
        have := (List.getElem?_eq_some_iff.mp e').1
        rw [List.length_singleton] at this
        omega
      subst hk
      rw [Nat.sub_self] at e'
      cases e'
      exact ⟨gn.legs, gn.low⟩
  · have := wf.outs o ho
    show 0 ≤ o ∧ o < w.ins + ((oneW w g).gates.length : Int)
    omega
theorem moreW_wf {w : Works} {g : Str × List Int} (wf : WF 10 w) (gn : GoodNew w g) : WF 20 (moreW w g) := by
  have h1 := oneW_wf wf gn
  have lg : (w.gates ++ [g]).length = w.gates.length + 1 := by rw [List.length_append]; rfl
  refine ⟨h1.i1, h1.i6, h1.few, h1.legs, ?_, ?_, fun o ho => ?_⟩
  · show 1 ≤ (w.outs ++ [_]).length
    rw [List.length_append]
    exact Nat.le_add_left _ _
  · show (w.outs ++ [_]).length ≤ 20 + 20
    have := wf.o3
    rw [List.length_append, List.length_singleton]
    omega
  · have ho' : o ∈ w.outs ++ [w.ins + (w.gates.length : Int)] := ho
    show 0 ≤ o ∧ o < w.ins + ((w.gates ++ [g]).length : Int)
    rw [lg]
    have := wf.i1
    rcases List.mem_append.mp ho' with z | z
    · have := wf.outs o z
      omega
    · rw [List.mem_singleton.mp z]
      omega
theorem revW_wf {w : Works} (wf : WF 10 w) : WF 20 (revW w) := by
  have h1 := wf.mono (show 10 ≤ 20 by decide)
  exact ⟨h1.i1, h1.i6, h1.few, h1.legs, by show 1 ≤ w.outs.reverse.length; rw [List.length_reverse]; exact h1.o1, by show w.outs.reverse.length ≤ _; rw [List.length_reverse]; exact h1.o3, fun o ho => h1.outs o (List.mem_reverse.mp ho)⟩
theorem movW_wf {w : Works} (wf : WF 10 w) (h5 : w.ins < 6) : WF 20 (movW w) := by
  have h1 := wf.mono (show 10 ≤ 20 by decide)
  have i1 := h1.i1
  have lg : (w.gates.map movG).length = w.gates.length := List.length_map _
  refine ⟨by show 1 ≤ w.ins + 1; omega, by show w.ins + 1 ≤ 6; omega, by show (w.gates.map movG).length ≤ 20; rw [lg]; exact h1.few, fun k g e => ?_, by show 1 ≤ (w.outs.map _).length; rw [List.length_map]; exact h1.o1, by show (w.outs.map _).length ≤ _; rw [List.length_map]; exact h1.o3, fun o ho => ?_⟩
  · have e' : (w.gates.map movG)[k]? = some g := e
    rw [List.getElem?_map] at e'
    cases hz : w.gates[k]? with
    | none => rw [hz] at e'; cases e'
    | some g0 =>
      rw [hz] at e'
      cases e'
      obtain ⟨a, b⟩ := h1.legs k g0 hz
      refine ⟨by show legsOk g0.1 (g0.2.map _).length; rw [List.length_map]; exact a, fun l hl => ?_⟩
      obtain ⟨l0, hl0, rfl⟩ := List.mem_map.mp hl
      have := b l0 hl0
      show 0 ≤ l0 + 1 ∧ l0 + 1 < w.ins + 1 + k
      omega
  · obtain ⟨o0, ho0, rfl⟩ := List.mem_map.mp (show o ∈ w.outs.map (· + 1) from ho)
    have := h1.outs o0 ho0
    show 0 ≤ o0 + 1 ∧ o0 + 1 < w.ins + 1 + ((w.gates.map movG).length : Int)
    rw [lg]
    omega
theorem text_one {w : Works} (wf : WF 20 w) : 1 ≤ (textW w).length := by
  show 1 ≤ (joinL 10 ((rowsW w).map rowL)).toArray.size
  rw [List.size_toArray]
  show 1 ≤ (joinL 10 (rowL ⟨"in", [w.ins]⟩ :: (gatesR w.gates ++ [(⟨"out", w.outs⟩ : Rwt)]).map rowL)).length
  have h1 := row_some (in_ok ⟨wf.i1, wf.i6⟩ : (⟨"in", [w.ins]⟩ : Rwt).Ok)
  cases (gatesR w.gates ++ [(⟨"out", w.outs⟩ : Rwt)]).map rowL with
  | nil => exact h1
  | cons p r =>
    show 1 ≤ (rowL ⟨"in", [w.ins]⟩ ++ _).length
    rw [List.length_append]
    omega
theorem text_kd {w : Works} (wf : WF 20 w) : (decide ((textW w).length < (⟨#[10]⟩ : Str).length) || decide (Builtin.Str.strKind (textW w) < Builtin.Str.strKind ⟨#[10]⟩)) = false := by
  have one := text_one wf
  have h1 : Builtin.Str.strKind ⟨#[10]⟩ = 1 := by decide +kernel
  have h2 : 1 ≤ Builtin.Str.strKind (textW w) := by
    unfold Builtin.Str.strKind
    split
    · decide
    · split <;> decide
  have h3 : (⟨#[10]⟩ : Str).length = 1 := rfl
  rw [h1, h3, decide_eq_false (by omega), decide_eq_false (by omega)]
  rfl
theorem cut_tail (xs : List V) (v : V) : cutV (xs ++ [v]) (some (-1)) none = [v] := by
  have e1 : HT.sIx (xs ++ [v]).length 0 (some (-1)) = xs.length := by
    simp only [HT.sIx]
    rw [if_pos (by decide), List.length_append, List.length_singleton]
    omega
  have e2 : HT.sIx (xs ++ [v]).length (xs ++ [v]).length none = (xs ++ [v]).length := rfl
  unfold cutV
  rw [e1, e2, List.drop_left, List.length_append, Nat.add_sub_cancel_left]
  rfl
theorem new_ok {w : Works} {g : Str × List Int} (wf : WF 10 w) (gn : GoodNew w g) : (⟨g.1, g.2⟩ : Rwt).Ok := gate_ok (oneW_wf wf gn) (k := w.gates.length) (by show (w.gates ++ [g])[w.gates.length]? = some g; rw [List.getElem?_append_right (Nat.le_refl _), Nat.sub_self]; rfl)
noncomputable def hole' (pd : Addr) (H : Hp) : Hp := fun z => if z = pd then none else H z
theorem hole_ne' {pd z : Addr} {H : Hp} (h : z ≠ pd) : hole' pd H z = H z := if_neg h
theorem hole_off' {pd : Addr} {H : Hp} {o : HO} (e : H pd = some o) : Off [pd] (hole' pd H) H := ⟨fun b v q => by
    unfold hole' at q
    by_cases z : b = pd
    · rw [if_pos z] at q
      cases q
    · rw [if_neg z] at q
      exact q, fun m hm => by rw [List.mem_singleton.mp hm]; exact if_pos rfl, fun m hm => by rw [List.mem_singleton.mp hm]; exact ⟨o, e⟩⟩
theorem hole_same' {pd : Addr} {G H : Hp} (s : Same G H) (g : G pd = none) : Same G (hole' pd H) := fun b v q => by
  rw [hole_ne' (ne_of_none q g)]
  exact s b v q
theorem seqT_dk {K : PySem.W.Frag} {H : Hp} {p a : Addr} {xs : List V} {kvs : List (Key × V)} (h : SqT K H a xs) (e : H p = some (.dK kvs)) : SqT K (hole' p H) a xs := by
  rcases h with h | h
  · left
    rcases h with h | ⟨o, h⟩
    · exact .inl (by rw [hole_ne' (fun z => by rw [z, e] at h; cases h)]; exact h)
    · exact .inr ⟨o, by rw [hole_ne' (fun z => by rw [z, e] at h; cases h)]; exact h⟩
  · exact .inr h
theorem seqL_dk {K : PySem.W.Frag} {H : Hp} {p a : Addr} {xs : List V} {kvs : List (Key × V)} (h : SqL K H a xs) (e : H p = some (.dK kvs)) : SqL K (hole' p H) a xs := by
  rcases h with h | h
  · left
    rcases h with h | ⟨o, h⟩
    · exact .inl (by rw [hole_ne' (fun z => by rw [z, e] at h; cases h)]; exact h)
    · exact .inr ⟨o, by rw [hole_ne' (fun z => by rw [z, e] at h; cases h)]; exact h⟩
  · exact .inr h
mutual
theorem rep_dk {K : PySem.W.Frag} {H : Hp} {d : Addr} {kvs : List (Key × V)} (e : H d = some (.dK kvs)) : ∀ {v : V} {D : Dat}, Rep K H v D → Rep K (hole' d H) v D
  | _, _, .non => .non
  | _, _, .bl b => .bl b
  | _, _, .int i => .int i
  | _, _, .str x => .str x
  | _, _, .tup h r => .tup (seqT_dk h e) (reps_dk e r)
  | _, _, .lst h r => .lst (seqL_dk h e) (reps_dk e r)
theorem reps_dk {K : PySem.W.Frag} {H : Hp} {d : Addr} {kvs : List (Key × V)} (e : H d = some (.dK kvs)) : ∀ {vs : List V} {Ds : List Dat}, Reps K H vs Ds → Reps K (hole' d H) vs Ds
  | _, _, .nil => .nil
  | _, _, .cons h r => .cons (rep_dk e h) (reps_dk e r)
end
theorem ok_wf {f : Rwt} (ok : FOk f) (n : Nat) : PySem.W.kqdOk (n + 2) (wfD f) = true := by
  have so : PyData.strOk f.word = true := by
    rcases ok.form with ⟨e, _⟩ | ⟨e, _⟩ <;> rw [e] <;> decide +kernel
  show (Dat.str f.word :: f.ns.map Dat.int).all (PySem.W.kqdOk (n + 1)) = true
  refine List.all_eq_true.mpr fun d hd => ?_
  rcases List.mem_cons.mp hd with rfl | hd
  · simp [PySem.W.kqdOk, so]
  · obtain ⟨m, _, rfl⟩ := List.mem_map.mp hd
    simp [PySem.W.kqdOk]
theorem faults_many {w : Works} (wf : WF 20 w) : (faultsR w).length ≤ 1000 := by
  have e : (faultsR w).length = (faultsD w).length := by rw [← faultsR_D, List.length_map]
  have h1 := gatesF_len wf w.gates.length
  have := wf.few
  have := wf.i6
  rw [e]
  unfold faultsD
  rw [List.length_append, wiresF_len]
  omega
noncomputable def sp_oth (K : PySem.W.Frag) : Sp := fun vs H Q _ => ∃ (pd : Addr) (n : Int) (x : V) (w : Works) (G : Hp), vs = [.ref pd, x] ∧ H pd = some (.lst [.int n]) ∧ Off [pd] G H ∧ Rep K G x (worksD w) ∧ WF 10 w ∧
  ∀ (r : Addr) (us : List V) (g : Str × List Int) (ws : List Works) (H' : Hp), Same G H' → H' r = some (.lst us) → Reps K H' us ((moreW w g :: ws).map worksD) → GoodNew w g → (∀ v ∈ ws, WF 20 v) → ws.length ≤ 2 → Q (.ref r) H'
noncomputable def sp_rm (K : PySem.W.Frag) : Sp := fun vs H Q _ => ∃ (x y : V) (w : Works) (g : Str × List Int), vs = [x, y] ∧ Rep K H x (worksD w) ∧ Rep K H y (worksD (moreW w g)) ∧ WF 10 w ∧ GoodNew w g ∧ ∀ H', Same H H' → Q (.str (textW (oneW w g))) H'
section
variable {P : Program} {w : World} {K : PySem.W.Frag} {mg : Str → Option Value} {base : Heap} {t : Adr}
theorem sc_law_stir : FnScope ["cell", "k", "number"] ["cell", "k"] (defScope s_law_stir) := ⟨rfl, rfl, rfl, by decide +kernel, rfl, by decide +kernel, by decide +kernel⟩
theorem stir_1 (c k : Int) (hk : k = 1 ∨ k = 2 ∨ k = 3) : 0 ≤ c % 10 ^ 40 * 48271 + 3 ^ 60 * (k + 1) * (k + 1) + k ∧ c % 10 ^ 40 * 48271 + 3 ^ 60 * (k + 1) * (k + 1) + k < 10 ^ 46 := by
  rcases hk with rfl | rfl | rfl <;> omega
theorem stir_2 (n : Int) (h0 : 0 ≤ n) (h1 : n < 10 ^ 46) : 0 ≤ n * n + 69621 * n ∧ n * n + 69621 * n < 10 ^ 93 := by
  have a : 0 ≤ n * n := Int.mul_nonneg h0 h0
  have b : n * n ≤ 10 ^ 46 * 10 ^ 46 := Int.mul_le_mul (Int.le_of_lt h1) (Int.le_of_lt h1) h0 (by decide)
  omega
theorem bits46 {n : Int} (h : 0 ≤ n ∧ n < 10 ^ 46) : Builtin.Int.intBits n ≤ 2 ^ 20 := bits_of (k := 160) (by decide) (by omega) (by omega)
theorem bits93 {n : Int} (h : 0 ≤ n ∧ n < 10 ^ 93) : Builtin.Int.intBits n ≤ 2 ^ 20 := bits_of (k := 320) (by decide) (by omega) (by omega)
theorem bits62 {n : Int} (h : 0 ≤ n ∧ n < 10 ^ 62) : Builtin.Int.intBits n ≤ 2 ^ 20 := bits_of (k := 220) (by decide) (by omega) (by omega)
theorem bits130 {n : Int} (h : 0 ≤ n ∧ n < 10 ^ 130) : Builtin.Int.intBits n ≤ 2 ^ 20 := bits_of (k := 450) (by decide) (by omega) (by omega)
theorem eighth (x : Int) : 0 ≤ x % (10 ^ 61 + 7) / 8 ∧ x % (10 ^ 61 + 7) / 8 < 10 ^ 62 := by omega
theorem ok_law_stir (T : Txt K mg t) : FnOk P w K mg base CX0 1 t.f_law_stir t.fd_law_stir ["cell", "k"] sp_stir := by
  refine T.d_law_stir.F.okB sc_law_stir (fun vs H Q E h => ?_) (fun cdv A outer s H vs Q E hr h => ?_)
  · obtain ⟨c, k, rfl, _⟩ := h
    rfl
  obtain ⟨c, k, rfl, hk, q⟩ := h
  refine ⟨_, (bpss_cons (bps_set (k := 2) sc_law_stir.nd rfl (Or.inl rfl) (bpe_op op_add (bpe_op op_add (bpe_op op_mul (bpe_op op_mod (bpv 0) (bpe_op op_pow bpe_int bpe_int)) bpe_int) (bpe_op op_mul (bpe_op op_mul (bpe_op op_pow bpe_int bpe_int) (bpe_op op_add (bpv 1) bpe_int)) (bpe_op op_add (bpv 1) bpe_int))) (bpv 1)))
    (bpss_cons (bps_set (k := 2) sc_law_stir.nd rfl (Or.inl rfl) (bpe_op op_add (bpe_op op_mulB (bpv 2) (bpv 2)) (bpe_op op_mul bpe_int (bpv 2))))
    (bpss_one (bps_ret (bpe_op op_fdiv (bpe_op op_mod (bpe_op op_mulB (bpv 2) (bpv 2)) (bpe_op op_add (bpe_op op_pow bpe_int bpe_int) bpe_int)) bpe_int))))), ?_⟩
  have b1 := stir_1 c k hk
  have b2 := stir_2 _ b1.1 b1.2
  have hk2 : 0 ≤ k ∧ k ≤ 3 := by omega
  have pw : ∀ i j : Int, i.natAbs < 2 ^ 64 → 0 ≤ j → j ≤ 1000000 → CPow i j := fun i j a b c => ⟨b, c, a⟩
  refine ⟨_, rfl, _, _, rfl, rfl, pw _ _ (by decide) (by decide) (by decide), _, _, rfl, rfl, (by show (0 : Int) < 10 ^ 40; decide), _, _, rfl, rfl, .inr ⟨by decide, by decide⟩,
    _, _, rfl, rfl, pw _ _ (by decide) (by decide) (by decide), _, rfl, _, _, rfl, rfl, _, _, rfl, rfl, .inr ⟨by omega, by omega⟩, _, rfl, _, _, rfl, rfl, _, _, rfl, rfl, .inr ⟨by omega, by omega⟩,
    _, _, rfl, rfl, _, rfl, _, _, rfl, rfl, ?_⟩
  refine ⟨_, rfl, _, rfl, _, _, rfl, rfl, ⟨bits46 b1, bits46 b1⟩, _, rfl, _, _, rfl, rfl, .inl ⟨by decide, by decide⟩, _, _, rfl, rfl, ?_⟩
  refine ⟨_, rfl, _, rfl, _, _, rfl, rfl, ⟨bits93 b2, bits93 b2⟩,
    _, _, rfl, rfl, pw _ _ (by decide) (by decide) (by decide), _, _, rfl, rfl, _, _, rfl, rfl, (by show (0 : Int) < 10 ^ 61 + 7; decide), _, _, rfl, rfl, ⟨by decide, by decide⟩, ?_⟩
  exact q _ (eighth _).1 (eighth _).2
theorem sc_law_deck : FnScope ["cell"] ["cell"] (defScope s_law_deck) := ⟨rfl, rfl, rfl, by decide +kernel, rfl, by decide +kernel, by decide +kernel⟩
theorem ok_law_deck (T : Txt K mg t) : FnOk P w K mg base CX0 2 t.f_law_deck t.fd_law_deck ["cell"] sp_deck := by
  refine T.d_law_deck.F.okB sc_law_deck (fun vs H Q E h => ?_) (fun cdv A outer s H vs Q E hr h => ?_)
  · obtain ⟨c, rfl, _⟩ := h
    rfl
  obtain ⟨c, rfl, q⟩ := h
  refine ⟨_, (bpss_cons (bps_if (bpt_cmpR op_ge (bpv 0) (bpe_op op_pow bpe_int bpe_int) (nomark _)) (bpss_one (bps_ret (bpe_lst (bpa_cons (bpe_op op_sub (bpv 0) (bpe_op op_pow bpe_int bpe_int)) (bpa_nil))))) bpss_nil)
    (bpss_one (bps_ret (bpe_lst (bpa_cons (bpe_op op_add (bpe_op op_mulB (bpe_op op_add (bpe_op op_mulB (bpe_call (ok_law_stir T) (hr.mono (by decide)) rfl T.d_law_stir.m T.d_law_stir.F.kp T.d_law_stir.b .nil pass0 (bpa_cons (bpv 0) ( bpa_cons bpe_int (bpa_nil)))) (bpe_op op_pow bpe_int bpe_int)) (bpe_call (ok_law_stir T) (hr.mono (by decide)) rfl T.d_law_stir.m T.d_law_stir.F.kp T.d_law_stir.b .nil pass0 (bpa_cons (bpv 0) ( bpa_cons bpe_int (bpa_nil))))) (bpe_op op_pow bpe_int bpe_int)) (bpe_call (ok_law_stir T) (hr.mono (by decide)) rfl T.d_law_stir.m T.d_law_stir.F.kp T.d_law_stir.b .nil pass0 (bpa_cons (bpv 0) ( bpa_cons bpe_int (bpa_nil))))) (bpa_nil)))))), ?_⟩
  have pw : ∀ i j : Int, i.natAbs < 2 ^ 64 → 0 ≤ j → j ≤ 1000000 → CPow i j := fun i j a b c => ⟨b, c, a⟩
  refine ⟨_, rfl, _, _, rfl, rfl, pw _ _ (by decide) (by decide) (by decide), _, _, rfl, rfl, _, rfl, ite2 (fun _ => ?_) (fun _ => ?_)⟩
  · exact ⟨_, rfl, _, _, rfl, rfl, pw _ _ (by decide) (by decide) (by decide), _, _, rfl, rfl, (by show 1 ≤ sizeLine; decide), fun p hp => q p _ hp⟩
  · have b60 : Builtin.Int.intBits ((10 : Int) ^ (60 : Int).toNat) ≤ 2 ^ 20 := bits62 (n := 10 ^ 60) (by decide)
    refine ⟨_, rfl, c, 1, rfl, .inl rfl, fun r1 a1 b1 => ?_⟩
    refine ⟨_, _, rfl, rfl, pw _ _ (by decide) (by decide) (by decide), _, _, rfl, rfl, ⟨bits62 ⟨a1, b1⟩, b60⟩, _, rfl, c, 2, rfl, .inr (.inl rfl), fun r2 a2 b2 => ?_⟩
    have m1 : 0 ≤ r1 * 10 ^ 60 + r2 ∧ r1 * 10 ^ 60 + r2 < 10 ^ 130 := by omega
    refine ⟨_, _, rfl, rfl, _, _, rfl, rfl, pw _ _ (by decide) (by decide) (by decide), _, _, rfl, rfl, ⟨bits130 m1, b60⟩, _, rfl, c, 3, rfl, .inr (.inr rfl), fun r3 a3 b3 => ?_⟩
    exact ⟨_, _, rfl, rfl, (by show 1 ≤ sizeLine; decide), fun p hp => q p _ hp⟩
theorem sc_law_take : FnScope ["deck", "many", "taken"] ["deck", "many"] (defScope s_law_take) := ⟨rfl, rfl, rfl, by decide +kernel, rfl, by decide +kernel, by decide +kernel⟩
theorem ok_law_take (T : Txt K mg t) : FnOk P w K mg base CX0 1 t.f_law_take t.fd_law_take ["deck", "many"] sp_take := by
  refine T.d_law_take.F.okB sc_law_take (fun vs H Q E h => ?_) (fun cdv A outer s H vs Q E hr h => ?_)
  · obtain ⟨p, n, m, rfl, _⟩ := h
    rfl
  obtain ⟨p, n, m, rfl, hp, m0, m1, q⟩ := h
  refine ⟨_, (bpss_cons (bps_set (k := 2) sc_law_take.nd rfl (Or.inl rfl) (bpe_op op_mod (bpe_ix ix_list (bpv 0) bpe_int (fun _ _ => rfl)) (bpv 1)))
    (bpss_cons (bps_asg (bpe_op op_fdiv (bpe_ix ix_list (bpv 0) bpe_int (fun _ _ => rfl)) (bpv 1)) (bpg_sub (bpv 0) bpe_int set_list))
    (bpss_one (bps_ret (bpv 2))))), ?_⟩
  refine ⟨_, rfl, p, _, _, _, rfl, rfl, .of hp, rfl, _, rfl, _, _, rfl, rfl, m0, ?_⟩
  refine ⟨_, rfl, p, _, _, _, rfl, rfl, .of hp, rfl, _, rfl, _, _, rfl, rfl, ⟨m0, m1⟩, _, rfl, p, _, _, _, rfl, rfl, hp, rfl, ?_⟩
  exact ⟨_, rfl, q _ _ (Int.emod_nonneg _ (Int.ne_of_gt m0)) (Int.emod_lt_of_pos _ m0)⟩
theorem sc_law_legs : FnScope ["deck", "kind"] ["deck", "kind"] (defScope s_law_legs) := ⟨rfl, rfl, rfl, by decide +kernel, rfl, by decide +kernel, by decide +kernel⟩
theorem ok_law_legs (T : Txt K mg t) : FnOk P w K mg base CX0 2 t.f_law_legs t.fd_law_legs ["deck", "kind"] sp_legs := by
  refine T.d_law_legs.F.okB sc_law_legs (fun vs H Q E h => ?_) (fun cdv A outer s H vs Q E hr h => ?_)
  · obtain ⟨p, n, x, rfl, _⟩ := h
    rfl
  obtain ⟨p, n, x, rfl, hp, hk, q⟩ := h
  have hu1 := hu_of hr
  refine ⟨_, (bpss_cons (bps_if (bpt_cmpR op_in_seq (bpv 1) (bpe_tup (bpa_cons bpe_str ( bpa_cons bpe_str ( bpa_cons bpe_str (bpa_nil))))) rfl) (bpss_one (bps_ret (bpe_op op_add bpe_int (bpe_call (ok_law_take T) (hr.mono (by decide)) rfl T.d_law_take.m T.d_law_take.F.kp T.d_law_take.b .nil pass0 (bpa_cons (bpv 0) ( bpa_cons bpe_int (bpa_nil))))))) bpss_nil)
    (bpss_one (bps_ret (bpe_dget hu1 (bpe_disp (bpps_cons bpe_str bpe_int (bpps_cons bpe_str bpe_int (bpps_cons bpe_str bpe_int (bpps_cons bpe_str bpe_int bpps_nil)))) rfl rfl (by simp) (by decide)) (bpv 1) (fun _ _ => rfl))))), ?_⟩
  refine ⟨_, rfl, (by show 3 ≤ sizeLine; decide), fun T1 h1 => ⟨T1, _, rfl, .inr (.of upd_same), rfl, rfl, _, rfl, ?_⟩⟩
  have p1 : p ≠ T1 := ne_of_none hp h1
  have hp1 : ∀ o, (upd H T1 o) p = some (.lst [.int n]) := fun o => by rw [upd_ne p1]; exact hp
  have sb : ∀ o, SameB p H (upd H T1 o) := fun o => (same_upd h1 o).b p
  have d1 : ∀ (k : Key) (v : V) (m : Nat), legsOk x m → v = .int m → V.str x = kV k → valV (mergeK [] [(Sum.inr "not", .int 1), (Sum.inr "choose", .int 3), (Sum.inr "zero", .int 0), (Sum.inr "one", .int 0)]) k = some v →
      ∀ d, (upd H T1 (.tup [.str "and", .str "or", .str "odd"])) d = none → DGet (upd (upd (upd H T1 (.tup [.str "and", .str "or", .str "odd"])) d (.dK [])) d (.dK (mergeK [] [(Sum.inr "not", .int 1), (Sum.inr "choose", .int 3), (Sum.inr "zero", .int 0), (Sum.inr "one", .int 0)]))) d (.str x) (some v) ∧
        Q v (upd (upd (upd H T1 (.tup [.str "and", .str "or", .str "odd"])) d (.dK [])) d (.dK (mergeK [] [(Sum.inr "not", .int 1), (Sum.inr "choose", .int 3), (Sum.inr "zero", .int 0), (Sum.inr "one", .int 0)]))) := fun k v m hm ev ek hv d hd => by
    have hd0 : H d = none := (same_upd h1 _).free hd
    have pd : p ≠ d := ne_of_none hp hd0
    refine ⟨by rw [ek, ← hv]; exact DGet.k upd_same, ?_⟩
    rw [ev]
    exact q m n _ hm ((((same_upd h1 _).upd hd _).write hd0 _).b p) (by rw [upd_ne pd, upd_ne pd]; exact hp1 _)
  have yes : ∀ r n' : Int, (x = "and" ∨ x = "or" ∨ x = "odd") → 0 ≤ r → r < 3 → Q (.int (2 + r)) (upd (upd H T1 (.tup [.str "and", .str "or", .str "odd"])) p (.lst [.int n'])) := fun r n' hx a b => by
    have e : (((2 + r).toNat : Nat) : Int) = 2 + r := by omega
    have z := q (2 + r).toNat n' (upd (upd H T1 (.tup [.str "and", .str "or", .str "odd"])) p (.lst [.int n'])) (.inl ⟨hx, by omega, by omega⟩) ((sb _).write _) upd_same
    rw [e] at z
    exact z
  rcases hk with rfl | rfl | rfl | rfl | rfl | rfl | rfl
  all_goals dsimp only
  · rw [if_pos (by decide +kernel)]
    refine ⟨_, rfl, p, n, 3, rfl, hp1 _, by decide, by decide, fun r n' a b => ⟨_, _, rfl, rfl, ?_⟩⟩
    exact yes r n' (.inl rfl) a b
  · rw [if_pos (by decide +kernel)]
    refine ⟨_, rfl, p, n, 3, rfl, hp1 _, by decide, by decide, fun r n' a b => ⟨_, _, rfl, rfl, ?_⟩⟩
    exact yes r n' (.inr (.inl rfl)) a b
  · rw [if_pos (by decide +kernel)]
    refine ⟨_, rfl, p, n, 3, rfl, hp1 _, by decide, by decide, fun r n' a b => ⟨_, _, rfl, rfl, ?_⟩⟩
    exact yes r n' (.inr (.inr rfl)) a b
  · rw [if_neg (by decide +kernel)]
    intro d hd
    refine ⟨upd_same, [(Sum.inr "not", .int 1), (Sum.inr "choose", .int 3), (Sum.inr "zero", .int 0), (Sum.inr "one", .int 0)], rfl, by decide, _, rfl, d, .int 1, rfl, ?_⟩
    exact d1 (Sum.inr "not") (.int 1) 1 (.inr (.inl ⟨rfl, rfl⟩)) rfl rfl (by decide +kernel) d hd
  · rw [if_neg (by decide +kernel)]
    intro d hd
    refine ⟨upd_same, [(Sum.inr "not", .int 1), (Sum.inr "choose", .int 3), (Sum.inr "zero", .int 0), (Sum.inr "one", .int 0)], rfl, by decide, _, rfl, d, .int 3, rfl, ?_⟩
    exact d1 (Sum.inr "choose") (.int 3) 3 (.inr (.inr (.inl ⟨rfl, rfl⟩))) rfl rfl (by decide +kernel) d hd
  · rw [if_neg (by decide +kernel)]
    intro d hd
    refine ⟨upd_same, [(Sum.inr "not", .int 1), (Sum.inr "choose", .int 3), (Sum.inr "zero", .int 0), (Sum.inr "one", .int 0)], rfl, by decide, _, rfl, d, .int 0, rfl, ?_⟩
    exact d1 (Sum.inr "zero") (.int 0) 0 (.inr (.inr (.inr ⟨.inl rfl, rfl⟩))) rfl rfl (by decide +kernel) d hd
  · rw [if_neg (by decide +kernel)]
    intro d hd
    refine ⟨upd_same, [(Sum.inr "not", .int 1), (Sum.inr "choose", .int 3), (Sum.inr "zero", .int 0), (Sum.inr "one", .int 0)], rfl, by decide, _, rfl, d, .int 0, rfl, ?_⟩
    exact d1 (Sum.inr "one") (.int 0) 0 (.inr (.inr (.inr ⟨.inr rfl, rfl⟩))) rfl rfl (by decide +kernel) d hd
theorem sc_law_works : FnScope ["deck", "most", "inputs", "gates", "k", "outputs", "kind", "legs", "place"] ["deck", "most"] (defScope s_law_works) := ⟨rfl, rfl, rfl, by decide +kernel, rfl, by decide +kernel, by decide +kernel⟩
structure WI (K : PySem.W.Frag) (H0 : Hp) (p g : Addr) (M : List Addr) (gs : List (Str × List Int)) (H : Hp) : Prop where
  deck : ∃ n, H p = some (.lst [.int n])
  same : SameB p H0 H
  ex : ∃ G xs, Same G H ∧ G p = none ∧ G g = none ∧ (∀ m ∈ M, G m = none) ∧ (∀ b o, G b = some o → H0 b = none) ∧ Reps K G xs (gs.map gateD) ∧ H g = some (.lst xs)
  pg : p ≠ g
  g0 : H0 g = none
  ms : ∀ m ∈ M, m ≠ p ∧ m ≠ g ∧ H0 m = none
theorem WI.take {H0 H : Hp} {p g : Addr} {M : List Addr} {gs : List (Str × List Int)} (W : WI K H0 p g M gs H) (n : Int) : WI K H0 p g M gs (upd H p (.lst [.int n])) := by
  obtain ⟨G, xs, a, b, c, d, e, f, h⟩ := W.ex
  exact ⟨⟨n, upd_same⟩, W.same.write _, ⟨G, xs, a.write b _, b, c, d, e, f, by rw [upd_ne (Ne.symm W.pg)]; exact h⟩, W.pg, W.g0, W.ms⟩
theorem WI.sb {H0 H H' : Hp} {p g : Addr} {M : List Addr} {gs : List (Str × List Int)} (W : WI K H0 p g M gs H) (s : SameB p H H') {n : Int} (e : H' p = some (.lst [.int n])) : WI K H0 p g M gs H' := by
  obtain ⟨G, xs, a, b, c, d, e', f, h⟩ := W.ex
  exact ⟨⟨n, e⟩, W.same.trans s, ⟨G, xs, s.same a b, b, c, d, e', f, s _ _ (Ne.symm W.pg) h⟩, W.pg, W.g0, W.ms⟩
theorem WI.new {H0 H : Hp} {p g T : Addr} {M : List Addr} {gs : List (Str × List Int)} (W : WI K H0 p g M gs H) (h : H T = none) (o : HO) : WI K H0 p g M gs (upd H T o) := by
  obtain ⟨n, e⟩ := W.deck
  exact W.sb ((same_upd h o).b p) (n := n) (by rw [upd_ne (ne_of_none e h)]; exact e)
theorem WI.open {H0 H : Hp} {p g l : Addr} {M : List Addr} {gs : List (Str × List Int)} (W : WI K H0 p g M gs H) (h : H l = none) : WI K H0 p g (l :: M) gs (upd H l (.lst [])) := by
  have W' := W.new h (.lst [])
  obtain ⟨n, e⟩ := W.deck
  obtain ⟨G, xs, a, b, c, d, e', f, h'⟩ := W.ex
  have lp : l ≠ p := Ne.symm (ne_of_none e h)
  refine ⟨W'.deck, W'.same, ⟨G, xs, a.upd h _, b, c, fun m hm => ?_, e', f, by rw [upd_ne (ne_of_none h' h)]; exact h'⟩, W.pg, W.g0, fun m hm => ?_⟩
  · rcases List.mem_cons.mp hm with rfl | hm
    · exact a.free h
    · exact d m hm
  · rcases List.mem_cons.mp hm with rfl | hm
    · refine ⟨lp, Ne.symm (ne_of_none h' h), ?_⟩
      cases z : H0 m with
      | none => rfl
      | some u => rw [W.same m u lp z] at h; cases h
    · exact W.ms m hm
theorem WI.put {H0 H : Hp} {p g l : Addr} {M : List Addr} {gs : List (Str × List Int)} (W : WI K H0 p g M gs H) (h : l ∈ M) (o : HO) : WI K H0 p g M gs (upd H l o) := by
  obtain ⟨n, e⟩ := W.deck
  obtain ⟨G, xs, a, b, c, d, e', f, h'⟩ := W.ex
  obtain ⟨m1, m2, m3⟩ := W.ms l h
  refine ⟨⟨n, by rw [upd_ne (Ne.symm m1)]; exact e⟩, fun x u nx q => ?_, ⟨G, xs, a.write (d l h) o, b, c, d, e', f, by rw [upd_ne (Ne.symm m2)]; exact h'⟩, W.pg, W.g0, W.ms⟩
  rw [upd_ne (ne_of_none q m3)]
  exact W.same x u nx q
theorem WI.drop {H0 H : Hp} {p g l : Addr} {M : List Addr} {gs : List (Str × List Int)} (W : WI K H0 p g (l :: M) gs H) : WI K H0 p g M gs H := by
  obtain ⟨G, xs, a, b, c, d, e', f, h'⟩ := W.ex
  exact ⟨W.deck, W.same, ⟨G, xs, a, b, c, fun m hm => d m (.tail _ hm), e', f, h'⟩, W.pg, W.g0, fun m hm => W.ms m (.tail _ hm)⟩
theorem WI.push {H0 H : Hp} {p g T1 T2 : Addr} {gs : List (Str × List Int)} {xs : List V} {x : Str} {ls : List Int} (W : WI K H0 p g [] gs H) (hx : H g = some (.lst xs)) (h1 : H T1 = none)
    (h2 : (upd H T1 (.tup (ls.map V.int))) T2 = none) :
    WI K H0 p g [] (gs ++ [(x, ls)]) (upd (upd (upd H T1 (.tup (ls.map V.int))) T2 (.tup [.str x, .ref T1])) g (.lst (xs ++ [.ref T2]))) := by
  have W1 := (W.new h1 (.tup (ls.map V.int))).new h2 (.tup [.str x, .ref T1])
  obtain ⟨n, e⟩ := W1.deck
  obtain ⟨m, em⟩ := W.deck
  obtain ⟨G, ys, a, b, c, d, e', f, h'⟩ := W.ex
  rw [hx] at h'
  cases h'
  have s1 : Same G (upd G T1 (.tup (ls.map V.int))) := same_upd (a.free h1) _
  have k1 : Same (upd G T1 (.tup (ls.map V.int))) (upd H T1 (.tup (ls.map V.int))) := fun z u q => by
    by_cases ez : z = T1
    · subst ez; rw [upd_same] at q ⊢; exact q
    · rw [upd_ne ez] at q ⊢; exact a z u q
  have n2 : (upd G T1 (.tup (ls.map V.int))) T2 = none := k1.free h2
  have s2 : Same (upd G T1 (.tup (ls.map V.int))) (upd (upd G T1 (.tup (ls.map V.int))) T2 (.tup [.str x, .ref T1])) := same_upd n2 _
  have k2 : Same (upd (upd G T1 (.tup (ls.map V.int))) T2 (.tup [.str x, .ref T1])) (upd (upd H T1 (.tup (ls.map V.int))) T2 (.tup [.str x, .ref T1])) := fun z u q => by
    by_cases ez : z = T2
    · subst ez; rw [upd_same] at q ⊢; exact q
    · rw [upd_ne ez] at q ⊢; exact k1 z u q
  have gT1 : g ≠ T1 := ne_of_none hx h1
  have gT2 : g ≠ T2 := ne_of_none (show (upd H T1 (.tup (ls.map V.int))) g = some (.lst xs) by rw [upd_ne gT1]; exact hx) h2
  have pT1 : p ≠ T1 := ne_of_none em h1
  have pT2 : p ≠ T2 := ne_of_none (show (upd H T1 (.tup (ls.map V.int))) p = some (.lst [.int m]) by rw [upd_ne pT1]; exact em) h2
  have gG : (upd (upd G T1 (.tup (ls.map V.int))) T2 (.tup [.str x, .ref T1])) g = none := by rw [upd_ne gT2, upd_ne gT1]; exact c
  have f1 : H0 T1 = none := by
    cases z : H0 T1 with
    | none => rfl
    | some u => rw [W.same T1 u (Ne.symm pT1) z] at h1; cases h1
  have f2 : H0 T2 = none := by
    cases z : H0 T2 with
    | none => rfl
    | some u => rw [(W.new h1 _).same T2 u (Ne.symm pT2) z] at h2; cases h2
  refine ⟨⟨n, by rw [upd_ne W.pg]; exact e⟩, fun z u nz q => ?_, ⟨_, xs ++ [.ref T2], k2.write gG _, by rw [upd_ne pT2, upd_ne pT1]; exact b, gG, (fun m hm => nomatch hm), fun z u q => ?_, ?_, upd_same⟩, W.pg, W.g0, W.ms⟩
  · rw [upd_ne (ne_of_none q W.g0)]
    exact W1.same z u nz q
  · by_cases ez : z = T2
    · rw [ez]; exact f2
    · rw [upd_ne ez] at q
      by_cases ez1 : z = T1
      · rw [ez1]; exact f1
      · rw [upd_ne ez1] at q
        exact e' z u q
  · rw [List.map_append]
    exact ((f.mono s1).mono s2).snoc (.tup (.of upd_same) (.cons (.str x) (.cons ((Rep.tup (.of upd_same) (Reps.ints ls)).mono s2) .nil)))
theorem kinds_at {c : Int} (h0 : 0 ≤ c) (h1 : c < 9) : ∃ x, atI [V.str "and", V.str "or", V.str "odd", V.str "not", V.str "choose", V.str "zero", V.str "one", V.str "and", V.str "odd"] c = some (.str x) ∧ isKind x := by
  have : c = 0 ∨ c = 1 ∨ c = 2 ∨ c = 3 ∨ c = 4 ∨ c = 5 ∨ c = 6 ∨ c = 7 ∨ c = 8 := by omega
  rcases this with rfl | rfl | rfl | rfl | rfl | rfl | rfl | rfl | rfl
  · exact ⟨_, rfl, .inl rfl⟩
  · exact ⟨_, rfl, .inr (.inl rfl)⟩
  · exact ⟨_, rfl, .inr (.inr (.inl rfl))⟩
  · exact ⟨_, rfl, .inr (.inr (.inr (.inl rfl)))⟩
  · exact ⟨_, rfl, .inr (.inr (.inr (.inr (.inl rfl))))⟩
  · exact ⟨_, rfl, .inr (.inr (.inr (.inr (.inr (.inl rfl)))))⟩
  · exact ⟨_, rfl, .inr (.inr (.inr (.inr (.inr (.inr rfl)))))⟩
  · exact ⟨_, rfl, .inl rfl⟩
  · exact ⟨_, rfl, .inr (.inr (.inl rfl))⟩
theorem ok_law_works (T : Txt K mg t) : FnOk P w K mg base CX0 3 t.f_law_works t.fd_law_works ["deck", "most"] (sp_works K) := by
  refine T.d_law_works.F.okB sc_law_works (fun vs H Q E h => ?_) (fun cdv A outer s H vs Q E hr h => ?_)
  · obtain ⟨p, n, most, rfl, _⟩ := h
    rfl
  obtain ⟨p, n, most, rfl, hp, hm, q⟩ := h
  refine ⟨_, (bpss_cons (bps_set (k := 2) sc_law_works.nd rfl (Or.inr rfl) (bpe_op op_add bpe_int (bpe_call (ok_law_take T) (hr.mono (by decide)) rfl T.d_law_take.m T.d_law_take.F.kp T.d_law_take.b .nil pass0 (bpa_cons (bpv 0) ( bpa_cons bpe_int (bpa_nil))))))
    (bpss_cons (bps_set (k := 3) sc_law_works.nd rfl (Or.inr rfl) (bpe_lst bpa_nil))
    (bpss_cons (bps_for PassesOwn.never rfl (bpi_range1 rfl T.z_range (bpa_cons (bpe_call (ok_law_take T) (hr.mono (by decide)) rfl T.d_law_take.m T.d_law_take.F.kp T.d_law_take.b .nil pass0 (bpa_cons (bpv 0) ( bpa_cons (bpe_op op_add (bpv 1) bpe_int) (bpa_nil)))) (bpa_nil))) (bpg_name (k := 4) sc_law_works.nd rfl (Or.inl rfl)) (bpss_cons (bps_set (k := 6) sc_law_works.nd rfl (Or.inl rfl) (bpe_ix ix_list (bpe_lst (bpa_cons bpe_str ( bpa_cons bpe_str ( bpa_cons bpe_str ( bpa_cons bpe_str ( bpa_cons bpe_str ( bpa_cons bpe_str ( bpa_cons bpe_str ( bpa_cons bpe_str ( bpa_cons bpe_str (bpa_nil))))))))))) (bpe_call (ok_law_take T) (hr.mono (by decide)) rfl T.d_law_take.m T.d_law_take.F.kp T.d_law_take.b .nil pass0 (bpa_cons (bpv 0) ( bpa_cons bpe_int (bpa_nil)))) (fun _ _ => rfl)))
    (bpss_cons (bps_set (k := 7) sc_law_works.nd rfl (Or.inl rfl) (bpe_lst bpa_nil))
    (bpss_cons (bps_for PassesOwn.never rfl (bpi_range1 rfl T.z_range (bpa_cons (bpe_call (ok_law_legs T) (hr.mono (by decide)) rfl T.d_law_legs.m T.d_law_legs.F.kp T.d_law_legs.b .nil pass0 (bpa_cons (bpv 0) ( bpa_cons (bpv 6) (bpa_nil)))) (bpa_nil))) (bpg_name (k := 8) sc_law_works.nd rfl (Or.inl rfl)) (bpss_one (bps_expr (bpe_bm PySem.F.plainAttrs_list PySem.F.slot_list_append PySem.F.type_list_append mt_append (bpv 7) (bpa_cons (bpe_call (ok_law_take T) (hr.mono (by decide)) rfl T.d_law_take.m T.d_law_take.F.kp T.d_law_take.b .nil pass0 (bpa_cons (bpv 0) ( bpa_cons (bpe_op op_add (bpv 2) (bpv 4)) (bpa_nil)))) (bpa_nil))))))
    (bpss_one (bps_expr (bpe_bm PySem.F.plainAttrs_list PySem.F.slot_list_append PySem.F.type_list_append mt_append (bpv 3) (bpa_cons (bpe_tup (bpa_cons (bpv 6) ( bpa_cons (bpe_callTy call_tuple_of rfl T.z_tuple PyProof.Rows.boot_tuple (bpa_cons (bpv 7) (bpa_nil))) (bpa_nil)))) (bpa_nil)))))))))
    (bpss_cons (bps_setC (k := 5) rfl (N := ["k", "deck", "inputs", "gates"]) (n := 1) (cap := [0, 2, 3]) (blk_of rfl rfl) sc_law_works.nd rfl rfl (bpi_range1 rfl T.z_range (bpa_cons (bpe_op op_add bpe_int (bpe_call (ok_law_take T) (hr.mono (by decide)) rfl T.d_law_take.m T.d_law_take.F.kp T.d_law_take.b .nil pass0 (bpa_cons (bpv 0) ( bpa_cons bpe_int (bpa_nil))))) (bpa_nil))) (keep_name (by decide)) (fun _ _ _ _ => (bpg_name (k := 0) (show (["k", "deck", "inputs", "gates"] : List Str).Nodup by decide +kernel) rfl (Or.inl rfl))) (fun _ _ _ _ => bpts_nil) (fun _ _ _ _ => (bpe_call (ok_law_take T) (hr.mono (by decide)) rfl T.d_law_take.m T.d_law_take.F.kp T.d_law_take.b .nil pass0 (bpa_cons (bpv 1) ( bpa_cons (bpe_op op_add (bpv 2) (bpe_callB (call_len_seqK (K := K)) rfl T.z_len PySem.boot_len (bpa_cons (bpv 3) (bpa_nil)))) (bpa_nil))))) rfl)
    (bpss_one (bps_ret (bpe_tup (bpa_cons (bpv 2) ( bpa_cons (bpv 3) ( bpa_cons (bpv 5) (bpa_nil))))))))))), ?_⟩
  refine ⟨_, rfl, p, n, 6, rfl, hp, by decide, by decide, fun r n1 a1 b1 => ⟨_, _, rfl, rfl, ?_⟩⟩
  refine ⟨(by show 0 ≤ sizeLine; decide), fun g hg => ?_⟩
  have pg : p ≠ g := ne_of_none upd_same hg
  have hg0 : H g = none := by rw [upd_ne (Ne.symm pg)] at hg; exact hg
  have W0 : WI K H p g [] [] (upd (upd H p (.lst [.int n1])) g (.lst [])) := by
    refine ⟨⟨n1, by rw [upd_ne pg, upd_same]⟩, fun z u nz q => ?_, ⟨fun _ => none, [], (fun _ _ z => nomatch z), rfl, rfl, (fun _ _ => rfl), (fun _ _ z => nomatch z), .nil, upd_same⟩, pg, hg0, fun _ z => nomatch z⟩
    rw [upd_ne (ne_of_none q hg0), upd_ne nz]
    exact q
  generalize (upd (upd H p (.lst [.int n1])) g (.lst [])) = H1 at W0
  obtain ⟨n2, e2⟩ := W0.deck
  refine ⟨_, rfl, _, rfl, _, _, rfl, rfl, p, n2, _, rfl, e2, by omega, by omega, fun c n3 a3 b3 => ⟨_, rfl, by omega, by omega, ?_⟩⟩
  have W1 := W0.take n3
  refine for_range (fun i σ H2 => ∃ (gs : List (Str × List Int)) (o4 o5 o6 o7 o8 : Option V), σ = [some (.ref p), some (.int most), some (.int (1 + r)), some (.ref g), o4, o5, o6, o7, o8] ∧ gs.length = i ∧
      (∀ (k : Nat) g, gs[k]? = some g → legsOk g.1 g.2.length ∧ ∀ l ∈ g.2, 0 ≤ l ∧ l < 1 + r + k) ∧ WI K H p g [] gs H2)
    ⟨[], _, _, _, _, _, rfl, rfl, (fun k g e => by simp at e), W1⟩ ?_ ?_
  · rintro i σ H2 hi ⟨gs, o4, o5, o6, o7, o8, rfl, lgs, ok, W⟩
    rw [Int.zero_add]
    refine ⟨(by show 9 ≤ sizeLine; decide), fun T1 h1 => ?_⟩
    have W2 := W.new h1 (.lst [.str "and", .str "or", .str "odd", .str "not", .str "choose", .str "zero", .str "one", .str "and", .str "odd"])
    obtain ⟨n4, e4⟩ := id W2.deck
    refine ⟨_, rfl, p, n4, 9, rfl, e4, by decide, by decide, fun c n5 a5 b5 => ?_⟩
    obtain ⟨x, hx, kx⟩ := kinds_at a5 b5
    have W3 := W2.take n5
    have pT : T1 ≠ p := by
      rintro rfl
      rw [upd_same] at e4
      cases e4
    refine ⟨T1, _, _, .str x, rfl, rfl, .of (by rw [upd_ne pT, upd_same]), hx, ?_⟩
    refine ⟨(by show 0 ≤ sizeLine; decide), fun l hl => ?_⟩
    have W4 := W3.open hl
    generalize (upd (upd H2 T1 (.lst [.str "and", .str "or", .str "odd", .str "not", .str "choose", .str "zero", .str "one", .str "and", .str "odd"])) p (.lst [.int n5])) = H3 at hl W3 W4
    obtain ⟨n6, e6⟩ := id W4.deck
    refine ⟨_, rfl, _, rfl, p, n6, x, rfl, e6, kx, fun m n7 H4 lk sb e7 => ⟨_, rfl, by omega, (by have := lk.le; omega), ?_⟩⟩
    have W5 := W4.sb sb e7
    have lp : l ≠ p := (W4.ms l (.head _)).1
    have hl4 : H4 l = some (.lst []) := sb l _ lp upd_same
    have lk4 := lk.le
    refine for_range (fun j σ H5 => ∃ (ls : List Int) (o8 : Option V), σ = [some (.ref p), some (.int most), some (.int (1 + r)), some (.ref g), some (.int i), o5, some (.str x), some (.ref l), o8] ∧ ls.length = j ∧
        (∀ z ∈ ls, 0 ≤ z ∧ z < 1 + r + i) ∧ H5 l = some (.lst (ls.map V.int)) ∧ WI K H p g [l] gs H5)
      ⟨[], _, rfl, rfl, (fun _ z => nomatch z), hl4, W5⟩ ?_ ?_
    · rintro j σ H5 hj ⟨ls, o8, rfl, lls, bl, hl5, W6⟩
      obtain ⟨n8, e8⟩ := id W6.deck
      refine ⟨_, rfl, .inl ⟨rfl, _, .of hl5⟩, _, rfl, _, rfl, _, rfl, _, _, rfl, rfl, p, n8, _, rfl, e8, by omega, by omega, fun c n9 a9 b9 => ?_⟩
      have W7 := W6.take n9
      refine ⟨l, ls.map V.int, .int c, rfl, rfl, by rw [upd_ne lp]; exact hl5, big (by rw [List.length_map]; omega), ls ++ [c], _, rfl, by simp [lls], fun z hz => ?_, ?_, W7.put (.head _) _⟩
      · rcases List.mem_append.mp hz with hz | hz
        · exact bl z hz
        · rw [List.mem_singleton.mp hz]
          exact ⟨a9, b9⟩
      · rw [upd_same, List.map_append]
        rfl
    · rintro σ H5 ⟨ls, o8, rfl, lls, bl, hl5, W6⟩
      have W7 := W6.drop
      obtain ⟨G, xs, _, _, _, _, _, rs, hgx⟩ := id W7.ex
      have lxs := rs.length
      rw [List.length_map] at lxs
      refine ⟨_, rfl, .inl ⟨rfl, _, .of hgx⟩, _, rfl, _, rfl, l, _, rfl, .inl ⟨.of hl5, fun T2 h2 => ⟨(by show 2 ≤ sizeLine; decide), fun T3 h3 => ?_⟩⟩⟩
      have g2 : g ≠ T2 := ne_of_none hgx h2
      have hg2 : (upd H5 T2 (.tup (ls.map V.int))) g = some (.lst xs) := by rw [upd_ne g2]; exact hgx
      have g3 : g ≠ T3 := ne_of_none hg2 h3
      refine ⟨g, xs, _, rfl, rfl, by rw [upd_ne g3]; exact hg2, big (by omega), gs ++ [(x, ls)], _, _, _, _, _, rfl, by simp [lgs], fun k gg e => ?_, W7.push hgx h2 h3⟩
      by_cases hk : k < gs.length
      · rw [List.getElem?_append_left hk] at e
        exact ok k gg e
      · have ek : k = gs.length := by
          have := (List.getElem?_eq_some_iff.mp e).1
          simp at this
          omega
        subst ek
        simp at e
        subst e
        have em : ((m : Nat) : Int).toNat = m := Int.toNat_natCast m
        refine ⟨?_, fun z hz => ?_⟩
        · show legsOk x ls.length
          rw [lls, em]
          exact lk
        · rw [lgs]
          exact bl z hz
  rintro σ H2 ⟨gs, o4, o5, o6, o7, o8, rfl, lgs, ok, W⟩
  obtain ⟨n4, e4⟩ := id W.deck
  refine ⟨_, rfl, p, n4, 3, rfl, e4, by decide, by decide, fun c' n5 a5 b5 => ⟨_, _, rfl, rfl, _, rfl, by omega, by omega, fun D hD => ?_⟩⟩
  have W2 := W.take n5
  have W3 := W2.open hD
  obtain ⟨dp, dg, d0⟩ := W3.ms D (.head _)
  refine comp_range (fun i H3 => ∃ os : List Int, os.length = i ∧ (∀ z ∈ os, 0 ≤ z ∧ z < 1 + r + gs.length) ∧ H3 D = some (.lst (os.map V.int)) ∧ WI K H p g [D] gs H3) ⟨[], rfl, (fun _ z => nomatch z), upd_same, W3⟩ ?_ ?_
  · rintro i H3 hi ⟨os, los, bo, ho, W4⟩
    obtain ⟨n6, e6⟩ := id W4.deck
    obtain ⟨G, xs, _, _, _, _, _, rs, hgx⟩ := id W4.ex
    have lxs := rs.length
    rw [List.length_map] at lxs
    refine ⟨_, rfl, _, rfl, _, rfl, g, _, rfl, .inl (.of hgx), _, _, rfl, rfl, p, n6, _, rfl, e6, by omega, by omega, fun c n7 a7 b7 => ?_⟩
    refine ⟨os.map V.int, by rw [upd_ne dp]; exact ho, big (by rw [List.length_map]; omega), os ++ [c], by simp [los], fun z hz => ?_, ?_, (W4.take n7).put (.head _) _⟩
    · rcases List.mem_append.mp hz with hz | hz
      · exact bo z hz
      · rw [List.mem_singleton.mp hz]
        exact ⟨a7, by omega⟩
    · rw [upd_same, List.map_append]
      rfl
  rintro H3 ⟨os, los, bo, ho, W4⟩
  obtain ⟨n6, e6⟩ := id W4.deck
  obtain ⟨G, xs, sG, gp, gg, gM, gn, rs, hgx⟩ := id W4.ex
  have gD : G D = none := gM D (.head _)
  refine ⟨_, rfl, _, rfl, _, rfl, (by show 3 ≤ sizeLine; decide), fun R hR => ?_⟩
  have Rp : R ≠ p := Ne.symm (ne_of_none e6 hR)
  have Rg : R ≠ g := Ne.symm (ne_of_none hgx hR)
  have RD : R ≠ D := Ne.symm (ne_of_none ho hR)
  have s1 : Same G (upd G g (.lst xs)) := same_upd gg _
  have s2 : Same (upd G g (.lst xs)) (upd (upd G g (.lst xs)) D (.lst (os.map V.int))) := same_upd (by rw [upd_ne dg]; exact gD) _
  have s3 : Same (upd (upd G g (.lst xs)) D (.lst (os.map V.int))) (upd (upd (upd G g (.lst xs)) D (.lst (os.map V.int))) R (.tup [.int (1 + r), .ref g, .ref D])) := same_upd (by rw [upd_ne RD, upd_ne Rg]; exact sG.free hR) _
  refine q ⟨1 + r, gs, os⟩ R n6 (upd (upd (upd G g (.lst xs)) D (.lst (os.map V.int))) R (.tup [.int (1 + r), .ref g, .ref D])) _ ⟨by show 1 ≤ 1 + r; omega, by show 1 + r ≤ 6; omega, by show gs.length ≤ most; omega, ok, by show 1 ≤ os.length; omega, by show os.length ≤ most + 20; omega, bo⟩
    (W4.same.trans ((same_upd hR _).b p)) (by rw [upd_ne (Ne.symm Rp)]; exact e6) (fun z u zq => ?_) (by rw [upd_ne (Ne.symm Rp), upd_ne (Ne.symm dp), upd_ne W4.pg]; exact gp) (fun z u zq => ?_) ?_
  · by_cases z1 : z = R
    · subst z1; rw [upd_same] at zq ⊢; exact zq
    · rw [upd_ne z1] at zq ⊢
      by_cases z2 : z = D
      · subst z2; rw [upd_same] at zq; rw [ho]; exact zq
      · rw [upd_ne z2] at zq
        by_cases z3 : z = g
        · subst z3; rw [upd_same] at zq; rw [hgx]; exact zq
        · rw [upd_ne z3] at zq
          exact sG z u zq
  · by_cases z1 : z = R
    · rw [z1]
      cases zz : H R with
      | none => rfl
      | some u' => rw [W4.same R u' Rp zz] at hR; cases hR
    · rw [upd_ne z1] at zq
      by_cases z2 : z = D
      · rw [z2]; exact d0
      · rw [upd_ne z2] at zq
        by_cases z3 : z = g
        · rw [z3]; exact hg0
        · rw [upd_ne z3] at zq
          exact gn z u zq
  · refine .tup (.of upd_same) (.cons (.int _) (.cons ?_ (.cons ?_ .nil)))
    · refine .lst (.of ?_) (((rs.mono s1).mono s2).mono s3)
      rw [upd_ne (Ne.symm Rg), upd_ne (Ne.symm dg), upd_same]
    · refine .lst (.of ?_) (Reps.ints os)
      rw [upd_ne (Ne.symm RD), upd_same]
theorem sc_gate_worth : FnScope ["kind", "worths", "ones", "told", "worth"] ["kind", "worths", "ones"] (defScope s_gate_worth) := ⟨rfl, rfl, rfl, by decide +kernel, rfl, by decide +kernel, by decide +kernel⟩
theorem okG_gate_worth (T : Txt K mg t) : FnOk P w K mg base CX0 1 t.f_gate_worth t.fd_gate_worth ["kind", "worths", "ones"] (sp_gwI K) := by
  refine T.d_gate_worth.F.okB sc_gate_worth (fun vs H Q E h => ?_) (fun cdv A outer s H vs Q E hr h => ?_)
  · obtain ⟨x, p, ns, o, rfl, _⟩ := h
    rfl
  obtain ⟨x, p, ns, o, rfl, hS, lk, q⟩ := h
  refine ⟨_, (bpss_cons (bps_if (bpt_cmpR op_eq (bpv 0) bpe_str (nomark _)) (bpss_one (bps_ret (bpe_op op_xor (bpv 2) (bpe_ix ix_list (bpv 1) bpe_int (fun _ _ => rfl))))) bpss_nil)
    (bpss_cons (bps_if (bpt_cmpR op_eq (bpv 0) bpe_str (nomark _)) (bpss_one (bps_ret (bpe_op op_or (bpe_op op_and (bpe_ix ix_list (bpv 1) bpe_int (fun _ _ => rfl)) (bpe_ix ix_list (bpv 1) bpe_int (fun _ _ => rfl))) (bpe_op op_and (bpe_op op_xor (bpv 2) (bpe_ix ix_list (bpv 1) bpe_int (fun _ _ => rfl))) (bpe_ix ix_list (bpv 1) bpe_int (fun _ _ => rfl)))))) bpss_nil)
    (bpss_cons (bps_set (k := 3) sc_gate_worth.nd rfl (Or.inl rfl) (bpe_ifExp (bpt_cmpR op_in_seq (bpv 0) (bpe_tup (bpa_cons bpe_str ( bpa_cons bpe_str (bpa_nil)))) rfl) (bpv 2) bpe_int))
    (bpss_cons (bps_for PassesOwn.never rfl (bpi_list (bpv 1)) (bpg_name (k := 4) sc_gate_worth.nd rfl (Or.inl rfl)) (bpss_one (bps_if (bpt_cmpR op_eq (bpv 0) bpe_str (nomark _)) (bpss_one (bps_set (k := 3) sc_gate_worth.nd rfl (Or.inl rfl) (bpe_op op_and (bpv 3) (bpv 4)))) (bpss_one (bps_if (bpt_cmpR op_eq (bpv 0) bpe_str (nomark _)) (bpss_one (bps_set (k := 3) sc_gate_worth.nd rfl (Or.inl rfl) (bpe_op op_or (bpv 3) (bpv 4)))) (bpss_one (bps_set (k := 3) sc_gate_worth.nd rfl (Or.inl rfl) (bpe_op op_xor (bpv 3) (bpv 4)))))))))
    (bpss_one (bps_ret (bpv 3))))))), ?_⟩
  by_cases hn : x = "not"
  · subst hn
    have l1 := legs_not lk
    refine ⟨_, rfl, rfl, _, rfl, ifY rfl ⟨_, rfl, _, rfl, p, _, 0, _, rfl, rfl, hS, at_ints (Int.le_refl 0) (by omega), _, _, rfl, rfl, ?_⟩⟩
    rw [gi_not] at q
    exact q H (.refl H)
  refine ⟨_, rfl, rfl, _, rfl, ifN hn ?_⟩
  by_cases hc : x = "choose"
  · subst hc
    have l1 := legs_choose lk
    refine ⟨_, rfl, rfl, _, rfl, ifY rfl ?_⟩
    rw [gi_choose] at q
    exact ⟨_, rfl, p, _, 0, _, rfl, rfl, hS, at_ints (Int.le_refl 0) (by omega), _, rfl, p, _, 1, _, rfl, rfl, hS, at_ints (by decide) (by omega), _, _, rfl, rfl, _, rfl, _, rfl, p, _, 0, _, rfl, rfl, hS, at_ints (Int.le_refl 0) (by omega), _, _, rfl, rfl,
      _, rfl, p, _, 2, _, rfl, rfl, hS, at_ints (by decide) (by omega), _, _, rfl, rfl, _, _, rfl, rfl, q H (.refl H)⟩
  refine ⟨_, rfl, rfl, _, rfl, ifN hc ?_⟩
  rw [gi_fold hn hc] at q
  refine ⟨_, rfl, (by show 2 ≤ sizeLine; decide), fun T1 h1 => ⟨T1, _, rfl, .inr (.of upd_same), rfl, rfl, ?_⟩⟩
  have s1 := same_upd h1 (.tup [.str "and", .str "one"])
  refine ⟨_, rfl, ?_⟩
  have hin : (if false = true then !inV (V.str x) [.str "and", .str "one"] else inV (V.str x) [.str "and", .str "one"]) = decide (x = "and" ∨ x = "one") := in_two x "and" "one"
  rw [hin]
  generalize hf : (fun a b : Int => if x = "and" then Builtin.bitAnd a b else if x = "or" then Builtin.bitOr a b else Builtin.bitXor a b) = f at q
  have hf1 : x = "and" → ∀ a b, f a b = Builtin.bitAnd a b := fun e a b => by rw [← hf]; exact if_pos e
  have hf2 : x ≠ "and" → x = "or" → ∀ a b, f a b = Builtin.bitOr a b := fun e e2 a b => by rw [← hf]; show (if x = "and" then _ else _) = _; rw [if_neg e, if_pos e2]
  have hf3 : x ≠ "and" → x ≠ "or" → ∀ a b, f a b = Builtin.bitXor a b := fun e e2 a b => by rw [← hf]; show (if x = "and" then _ else _) = _; rw [if_neg e, if_neg e2]
  refine ite2 (fun c => ?_) (fun c => ?_)
  · rw [if_pos (of_decide_eq_true c)] at q
    refine ⟨_, rfl, ?_⟩
    refine ⟨_, rfl, p, rfl, ⟨_, s1.seq hS⟩, for_list (K := K) (a := p) (xs := ns.map V.int)
      (fun i σ H3 => ∃ o4 : Option V, σ = [some (.str x), some (.ref p), some (.int o), some (.int ((ns.take i).foldl f o)), o4] ∧ Same H H3) ⟨_, rfl, s1⟩ (fun i σ H3 _ ⟨_, _, s3⟩ => s3.seq hS) ?_ ?_⟩
    · rintro i y σ H3 hy ⟨o4, rfl, s3⟩
      rw [List.getElem?_map] at hy
      cases hz : ns[i]? with
      | none => rw [hz] at hy; cases hy
      | some n =>
        rw [hz] at hy
        cases hy
        have ef : (ns.take (i + 1)).foldl f o = f ((ns.take i).foldl f o) n := by rw [List.take_add_one, hz]; show (ns.take i ++ [n]).foldl f o = _; rw [List.foldl_append]; rfl
        rw [ef]
        refine ⟨_, rfl, rfl, _, rfl, ?_⟩
        by_cases e1 : x = "and"
        · rw [hf1 e1]
          exact ifY e1 ⟨_, rfl, _, rfl, _, _, rfl, rfl, _, rfl, s3⟩
        · refine ifN e1 ⟨_, rfl, rfl, _, rfl, ?_⟩
          by_cases e2 : x = "or"
          · rw [hf2 e1 e2]
            exact ifY e2 ⟨_, rfl, _, rfl, _, _, rfl, rfl, _, rfl, s3⟩
          · rw [hf3 e1 e2]
            exact ifN e2 ⟨_, rfl, _, rfl, _, _, rfl, rfl, _, rfl, s3⟩
    · rintro σ H3 ⟨o4, rfl, s3⟩
      have et : ns.take (ns.map V.int).length = ns := by rw [List.length_map, List.take_length]
      rw [et]
      exact ⟨_, rfl, q H3 s3⟩
  · rw [if_neg (fun z => c (decide_eq_true z))] at q
    refine ⟨_, rfl, p, rfl, ⟨_, s1.seq hS⟩, for_list (K := K) (a := p) (xs := ns.map V.int)
      (fun i σ H3 => ∃ o4 : Option V, σ = [some (.str x), some (.ref p), some (.int o), some (.int ((ns.take i).foldl f 0)), o4] ∧ Same H H3) ⟨_, rfl, s1⟩ (fun i σ H3 _ ⟨_, _, s3⟩ => s3.seq hS) ?_ ?_⟩
    · rintro i y σ H3 hy ⟨o4, rfl, s3⟩
      rw [List.getElem?_map] at hy
      cases hz : ns[i]? with
      | none => rw [hz] at hy; cases hy
      | some n =>
        rw [hz] at hy
        cases hy
        have ef : (ns.take (i + 1)).foldl f 0 = f ((ns.take i).foldl f 0) n := by rw [List.take_add_one, hz]; show (ns.take i ++ [n]).foldl f 0 = _; rw [List.foldl_append]; rfl
        rw [ef]
        refine ⟨_, rfl, rfl, _, rfl, ?_⟩
        by_cases e1 : x = "and"
        · rw [hf1 e1]
          exact ifY e1 ⟨_, rfl, _, rfl, _, _, rfl, rfl, _, rfl, s3⟩
        · refine ifN e1 ⟨_, rfl, rfl, _, rfl, ?_⟩
          by_cases e2 : x = "or"
          · rw [hf2 e1 e2]
            exact ifY e2 ⟨_, rfl, _, rfl, _, _, rfl, rfl, _, rfl, s3⟩
          · rw [hf3 e1 e2]
            exact ifN e2 ⟨_, rfl, _, rfl, _, _, rfl, rfl, _, rfl, s3⟩
    · rintro σ H3 ⟨o4, rfl, s3⟩
      have et : ns.take (ns.map V.int).length = ns := by rw [List.length_map, List.take_length]
      rw [et]
      exact ⟨_, rfl, q H3 s3⟩
theorem ok_gate_worth (T : Txt K mg t) : FnOk P w K mg base CX0 1 t.f_gate_worth t.fd_gate_worth ["kind", "worths", "ones"] (sp_gw K) := (okG_gate_worth T).imp fun vs H Q E ⟨x, p, ns, e, hS, b, lk, q⟩ => ⟨x, p, ns, 1, e, hS, lk, by rw [gateI_one b lk]; exact q⟩
theorem sc_check_row : FnScope ["works", "row"] ["works", "row"] (defScope s_check_row) := ⟨rfl, rfl, rfl, by decide +kernel, rfl, by decide +kernel, by decide +kernel⟩
theorem ok_check_row (T : Txt K mg t) : FnOk P w K mg base CX0 1 t.f_check_row t.fd_check_row ["works", "row"] (sp_cr K) := by
  refine T.d_check_row.F.okB sc_check_row (fun vs H Q E h => ?_) (fun cdv A outer s H vs Q E hr h => ?_)
  · obtain ⟨a, ga, oa, p, i, row, rfl, _⟩ := h
    rfl
  obtain ⟨a, ga, oa, p, i, row, rfl, ha, hS, hl, b, few, q⟩ := h
  refine ⟨_, (bpss_cons (bps_if (bpt_cmpR op_ne (bpe_callB call_len_seq rfl T.z_len PySem.boot_len (bpa_cons (bpv 1) (bpa_nil))) (bpe_ix ix_tup (bpv 0) bpe_int (fun _ _ => rfl)) (nomark _)) (bpss_one bps_never) bpss_nil)
    (bpss_one (bps_if (bpt_not (bpt_val (bpe_callB (call_allL rfl) rfl T.z_all PyProof.Rows.boot_all (bpa_cons (bpe_comp rfl (N := ["worth"]) (n := 1) (cap := []) (blk_of rfl rfl) (bpi_list (bpv 1)) (keep_name (by decide)) (fun _ _ _ _ => (bpg_name (k := 0) (show (["worth"] : List Str).Nodup by decide +kernel) rfl (Or.inl rfl))) (fun _ _ _ _ => bpts_nil) (fun _ _ _ _ => (bpe_cmpR (op_in_seqK (K := K)) (bpv 0) (bpe_tup (bpa_cons bpe_int ( bpa_cons bpe_int (bpa_nil)))) rfl))) (bpa_nil))))) (bpss_one bps_never) bpss_nil))), ?_⟩
  have el : (((row.map V.int).length : Nat) : Int) = i := by rw [List.length_map]; exact hl
  refine ⟨_, rfl, p, _, rfl, .inl hS, _, rfl, a, _, _, _, rfl, rfl, ha, rfl, rfl, _, rfl, iteNS (congrArg V.int el) ?_⟩
  refine ⟨_, rfl, p, rfl, ⟨_, hS⟩, fun D hD => comp_list (K := K) (a := p) (xs := row.map V.int) (fun j H2 => Same H H2 ∧ H2 D = some (.lst ((List.replicate j true).map V.bl))) ⟨same_upd hD _, upd_same⟩
    (fun j H2 _ z => z.1.seq hS) ?_ ?_⟩
  · rintro j x H2 hx ⟨s2, eD⟩
    obtain ⟨n, hn, rfl⟩ : ∃ n, n ∈ row ∧ x = .int n := by
      obtain ⟨n, h1, h2⟩ := List.mem_map.mp (List.mem_of_getElem? hx)
      exact ⟨n, h1, h2.symm⟩
    have hj : j < (row.map V.int).length := (List.getElem?_eq_some_iff.mp hx).1
    rw [List.length_map] at hj
    refine ⟨_, rfl, (by show 2 ≤ sizeLine; decide), fun T1 h1 => ⟨T1, _, rfl, .inr (.of upd_same), rfl, rfl, ?_⟩⟩
    have dT : D ≠ T1 := ne_of_none eD h1
    refine ⟨_, by rw [upd_ne dT]; exact eD, big (by simp; omega), (s2.upd h1 _).write hD _, ?_⟩
    have e1 : (if false = true then !inV (V.int n) [.int 0, .int 1] else inV (V.int n) [.int 0, .int 1]) = true := by
      rcases b n hn with e | e <;> (rw [e]; decide)
    rw [upd_same, e1, List.replicate_succ', List.map_append]
    rfl
  · rintro H2 ⟨s2, eD⟩
    refine ⟨D, List.replicate (row.map V.int).length true, rfl, .of eD, _, rfl, ?_⟩
    have e2 : (List.replicate (row.map V.int).length true).all id = true := by
      refine List.all_eq_true.mpr fun z hz => ?_
      rw [(List.mem_replicate.mp hz).2]
      rfl
    rw [e2]
    exact iteF (q H2 s2)
theorem sc_wire_worths : FnScope ["works", "row", "worths", "kind", "legs"] ["works", "row"] (defScope s_wire_worths) := ⟨rfl, rfl, rfl, by decide +kernel, rfl, by decide +kernel, by decide +kernel⟩
theorem ok_wire_worths (T : Txt K mg t) : FnOk P w K mg base CX0 2 t.f_wire_worths t.fd_wire_worths ["works", "row"] (sp_ww K) := by
  refine T.d_wire_worths.F.okB sc_wire_worths (fun vs H Q E h => ?_) (fun cdv A outer s H vs Q E hr h => ?_)
  · obtain ⟨x, p, w, row, rfl, _⟩ := h
    rfl
  obtain ⟨x, p, w, row, rfl, hx, wf, hS, hl, b, q⟩ := h
  obtain ⟨a, ga, oa, gs, os, rfl, ha, hg, ho, rg, ro⟩ := gates_at hx
  have lg : gs.length = w.gates.length := by rw [rg.length, List.length_map]
  have i1 := wf.i1
  have i6 := wf.i6
  have few := wf.few
  refine ⟨_, (bpss_cons (bps_expr (bpe_call (ok_check_row T) (hr.mono (by decide)) rfl T.d_check_row.m T.d_check_row.F.kp T.d_check_row.b .nil pass0 (bpa_cons (bpv 0) ( bpa_cons (bpv 1) (bpa_nil)))))
    (bpss_cons (bps_set (k := 2) sc_wire_worths.nd rfl (Or.inr rfl) (bpe_callTy call_list_of rfl T.z_list PyProof.Rows.boot_list (bpa_cons (bpv 1) (bpa_nil))))
    (bpss_cons (bps_for PassesOwn.never rfl (bpi_list (bpe_ix ix_tup (bpv 0) bpe_int (fun _ _ => rfl))) (bpg_tup rfl (bpgs_cons (bpg_name (k := 3) sc_wire_worths.nd rfl (Or.inl rfl)) (bpgs_cons (bpg_name (k := 4) sc_wire_worths.nd rfl (Or.inl rfl)) bpgs_nil))) (bpss_one (bps_expr (bpe_bm PySem.F.plainAttrs_list PySem.F.slot_list_append PySem.F.type_list_append mt_append (bpv 2) (bpa_cons (bpe_call (ok_gate_worth T) (hr.mono (by decide)) rfl T.d_gate_worth.m T.d_gate_worth.F.kp T.d_gate_worth.b1 dflt1 pass0 (bpa_cons (bpv 3) ( bpa_cons (bpe_comp rfl (N := ["leg", "worths"]) (n := 1) (cap := [2]) (blk_of rfl rfl) (bpi_tup (bpv 4)) (keep_name (by decide)) (fun _ _ _ _ => (bpg_name (k := 0) (show (["leg", "worths"] : List Str).Nodup by decide +kernel) rfl (Or.inl rfl))) (fun _ _ _ _ => bpts_nil) (fun _ _ _ _ => (bpe_ix (ix_listK (K := K)) (bpv 1) (bpv 0) (fun _ _ => rfl)))) (bpa_nil)))) (bpa_nil))))))
    (bpss_one (bps_ret (bpv 2)))))), ?_⟩
  refine ⟨_, rfl, _, rfl, a, ga, oa, p, w.ins, row, rfl, ha, hS, hl, b, by omega, fun H1 s1 => ?_⟩
  refine ⟨_, rfl, p, _, rfl, .inl (s1.seq hS), fun r hr1 => ?_⟩
  have hr0 : H r = none := s1.free hr1
  have s2 : Same H (upd H1 r (.lst (row.map V.int))) := s1.upd hr1 _
  refine ⟨_, rfl, a, _, _, _, rfl, rfl, s2.seqT ha, rfl, ga, rfl, ⟨_, s2.seq hg⟩, for_list (K := K) (a := ga) (xs := gs)
    (fun i σ H3 => ∃ (o3 o4 : Option V), σ = [some (.ref a), some (.ref p), some (.ref r), o3, o4] ∧ Same H H3 ∧ H3 r = some (.lst ((wiresV w.gates row i).map V.int)))
    ⟨_, _, rfl, s2, upd_same⟩ (fun i σ H3 _ ⟨_, _, _, s3, _⟩ => s3.seq hg) ?_ ?_⟩
  · rintro i x σ H3 hx ⟨o3, o4, rfl, s3, e3⟩
    have hi : i < gs.length := (List.getElem?_eq_some_iff.mp hx).1
    obtain ⟨g, hgk⟩ : ∃ g, w.gates[i]? = some g := ⟨_, List.getElem?_eq_getElem (by omega)⟩
    obtain ⟨d, hd, rv⟩ := rg.get hx
    rw [List.getElem?_map, hgk] at hd
    cases hd
    obtain ⟨a1, la, rfl, hA, hL⟩ := gate_at rv
    obtain ⟨lk, lb⟩ := wf.legs i g hgk
    have bw := wiresV_bits wf hl b i (by omega)
    have lw := wiresV_len w.gates row i
    refine ⟨a1, _, rfl, s3.seqT hA, rfl, _, _, rfl, _, _, rfl, rfl, ?_⟩
    refine ⟨_, rfl, .inl ⟨rfl, _, .of e3⟩, _, rfl, ?_⟩
    refine ⟨_, rfl, la, rfl, ⟨_, s3.seqT hL⟩, fun D hD => comp_tup (K := K) (a := la) (xs := g.2.map V.int)
      (fun j H4 => Same H3 H4 ∧ H4 D = some (.lst (((g.2.take j).map fun l => (wiresV w.gates row i).getD l.toNat 0).map V.int))) ⟨same_upd hD _, upd_same⟩ (fun j H4 _ z => (s3.trans z.1).seqT hL) ?_ ?_⟩
    · rintro j y H4 hy ⟨s4, eD⟩
      rw [List.getElem?_map] at hy
      cases hz : g.2[j]? with
      | none => rw [hz] at hy; cases hy
      | some l =>
        rw [hz] at hy
        cases hy
        have lj : j < g.2.length := (List.getElem?_eq_some_iff.mp hz).1
        have bl := lb l (List.mem_of_getElem? hz)
        have l4 := lk.le
        refine ⟨_, rfl, _, rfl, r, _, _, _, rfl, rfl, .of (s4 _ _ e3), at_ints bl.1 (by rw [lw]; omega), ?_⟩
        refine ⟨_, eD, big (by simp; omega), s4.write hD _, ?_⟩
        rw [upd_same, List.take_add_one, hz]
        simp
    · rintro H4 ⟨s4, eD⟩
      have et : g.2.take (g.2.map V.int).length = g.2 := by rw [List.length_map, List.take_length]
      rw [et] at eD
      refine ⟨g.1, D, g.2.map fun l => (wiresV w.gates row i).getD l.toNat 0, rfl, .of eD, fun z hz => ?_, by rw [List.length_map]; exact lk, fun H5 s5 => ?_⟩
      · obtain ⟨l, hl', rfl⟩ := List.mem_map.mp hz
        exact getD_bit bw (by rw [lw]; have := lb l hl'; omega)
      · refine ⟨r, _, _, rfl, rfl, s5 _ _ (s4 _ _ e3), big (by rw [List.length_map, lw]; omega), _, _, rfl, ((s3.trans s4).trans s5).write hr0 _, ?_⟩
        rw [upd_same, wiresV, hgk, List.map_append]
        rfl
  · rintro σ H3 ⟨o3, o4, rfl, s3, e3⟩
    rw [lg] at e3
    exact ⟨_, rfl, q r H3 s3 hr0 e3⟩
theorem sc_every_row : FnScope ["works", "rows", "place"] ["works"] (defScope s_every_row) := ⟨rfl, rfl, rfl, by decide +kernel, rfl, by decide +kernel, by decide +kernel⟩
theorem ok_every_row (T : Txt K mg t) : FnOk P w K mg base CX0 1 t.f_every_row t.fd_every_row ["works"] (sp_er K) := by
  refine T.d_every_row.F.okB sc_every_row (fun vs H Q E h => ?_) (fun cdv A outer s H vs Q E hr h => ?_)
  · obtain ⟨a, ga, oa, i, rfl, _⟩ := h
    rfl
  obtain ⟨a, ga, oa, i, rfl, ha, i0, i6, q⟩ := h
  refine ⟨_, (bpss_cons (bps_set (k := 1) sc_every_row.nd rfl (Or.inl rfl) (bpe_lst (bpa_cons (bpe_lst bpa_nil) (bpa_nil))))
    (bpss_cons (bps_for PassesOwn.never rfl (bpi_range1 rfl T.z_range (bpa_cons (bpe_ix ix_tup (bpv 0) bpe_int (fun _ _ => rfl)) (bpa_nil))) (bpg_name (k := 2) sc_every_row.nd rfl (Or.inl rfl)) (bpss_one (bps_set (k := 1) sc_every_row.nd rfl (Or.inl rfl) (bpe_op op_cat (bpe_comp rfl (N := ["row"]) (n := 1) (cap := []) (blk_of rfl rfl) (bpi_list (bpv 1)) (keep_name (by decide)) (fun _ _ _ _ => (bpg_name (k := 0) (show (["row"] : List Str).Nodup by decide +kernel) rfl (Or.inl rfl))) (fun _ _ _ _ => bpts_nil) (fun _ _ _ _ => (bpe_op op_cat (bpe_lst (bpa_cons bpe_int (bpa_nil))) (bpv 0)))) (bpe_comp rfl (N := ["row"]) (n := 1) (cap := []) (blk_of rfl rfl) (bpi_list (bpv 1)) (keep_name (by decide)) (fun _ _ _ _ => (bpg_name (k := 0) (show (["row"] : List Str).Nodup by decide +kernel) rfl (Or.inl rfl))) (fun _ _ _ _ => bpts_nil) (fun _ _ _ _ => (bpe_op op_cat (bpe_lst (bpa_cons bpe_int (bpa_nil))) (bpv 0))))))))
    (bpss_one (bps_ret (bpv 1))))), ?_⟩
  refine ⟨(by show 0 ≤ sizeLine; decide), fun e0 he0 => ⟨(by show 1 ≤ sizeLine; decide), fun R0 hR0 => ?_⟩⟩
  have s0 : Same H (upd H e0 (.lst [])) := same_upd he0 _
  have start : Rows H R0 [e0] (rowsV 0) (upd (upd H e0 (.lst [])) R0 (.lst [.ref e0])) := by
    have ne : e0 ≠ R0 := ne_of_none upd_same hR0
    refine ⟨s0.upd hR0 _, s0.free hR0, upd_same, .cons (by rw [upd_ne ne, upd_same]; rfl) .nil, List.nodup_cons.mpr ⟨(fun z => nomatch z), List.nodup_nil⟩, fun z hz => ?_⟩
    rw [List.mem_singleton.mp hz]
    exact ⟨he0, ne⟩
  refine ⟨_, rfl, a, _, _, _, rfl, rfl, start.same.seqT ha, rfl, _, rfl, by omega, by omega, for_range (fun j σ H3 => ∃ (R : Addr) (qs : List Addr) (o2 : Option V), σ = [some (.ref a), some (.ref R), o2] ∧ Rows H R qs (rowsV j) H3) ⟨_, _, _, rfl, start⟩ ?_ ?_⟩
  · rintro i σ H3 hi ⟨R, qs, o2, rfl, rw3⟩
    have few : (rowsV i).length ≤ 64 := rowsV_le (by omega)
    have lq := rw3.rows.len
    have comp : ∀ (c : Int) (Ha : Hp) (D : Addr) (j : Nat) (x : V) (H4 : Hp), Same H3 Ha → (qs.map V.ref)[j]? = some x → (∃ ps, Rows Ha D ps (((rowsV i).take j).map (c :: ·)) H4) → ∃ (q : Addr) (row : List Int) (ps : List Addr), x = .ref q ∧ H4 q = some (.lst (row.map V.int)) ∧ row.length = i ∧ Rows Ha D ps (((rowsV i).take j).map (c :: ·)) H4 ∧ ps.length ≤ 64 ∧ (∀ (T r' : Addr) (vs : List V), H4 T = none → (upd H4 T (.lst [.int c])) r' = none → vs = .int c :: row.map V.int → Rows Ha D (ps ++ [r']) (((rowsV i).take (j + 1)).map (c :: ·)) (upd (upd (upd H4 T (.lst [.int c])) r' (.lst vs)) D (.lst (ps.map V.ref ++ [.ref r'])))) := by
      rintro c Ha D j x H4 sa hx ⟨ps, rw4⟩
      rw [List.getElem?_map] at hx
      cases hz : qs[j]? with
      | none => rw [hz] at hx; cases hx
      | some q =>
        rw [hz] at hx
        cases hx
        obtain ⟨row, hrow, hq⟩ := rw3.rows.get hz
        have lp := rw4.rows.len
        refine ⟨q, row, ps, rfl, rw4.same _ _ (sa _ _ hq), (rowsV_row i row (List.mem_of_getElem? hrow)).1, rw4, ?_, fun T r' vs hT hr' e => ?_⟩
        · rw [lp, List.length_map, List.length_take]
          omega
        · rw [take_map_snoc _ hrow]
          exact rw4.push hT hr' e
    refine ⟨_, rfl, R, rfl, ⟨_, rw3.sq⟩, fun D hD => comp_list (K := K) (a := R) (xs := qs.map V.ref) (fun j H4 => ∃ ps, Rows H3 D ps (((rowsV i).take j).map (0 :: ·)) H4) ⟨[], Rows.start (Same.refl _) hD⟩ (fun j H4 _ ⟨ps, z⟩ => z.same.seq rw3.sq) ?_ ?_⟩
    · intro j x H4 hx h4
      obtain ⟨q, row, ps, rfl, hq, lr, rw4, lp, push⟩ := comp 0 H3 D j x H4 (Same.refl _) hx h4
      refine ⟨(by show 1 ≤ sizeLine; decide), fun T hT => ⟨_, rfl, T, q, _, _, rfl, rfl, upd_same, by rw [upd_ne (ne_of_none hq hT)]; exact hq, bigE (by rw [List.length_singleton, List.length_map]; omega), fun r' hr' => ?_⟩⟩
      have eD : (upd (upd H4 T (.lst [.int 0])) r' (.lst ([.int 0] ++ row.map V.int))) D = some (.lst (ps.map V.ref)) := (((same_upd hT _).upd hr' _) _ _ rw4.at_)
      exact ⟨_, eD, big (by rw [List.length_map]; omega), _, push T r' _ hT hr' rfl⟩
    rintro H4 ⟨ps, rw4⟩
    have et : (rowsV i).take (qs.map V.ref).length = rowsV i := by rw [List.length_map, lq, List.take_length]
    rw [et] at rw4
    refine ⟨_, rfl, R, rfl, ⟨_, rw4.same.seq rw3.sq⟩, fun D2 hD2 => comp_list (K := K) (a := R) (xs := qs.map V.ref) (fun j H5 => ∃ ps', Rows H4 D2 ps' (((rowsV i).take j).map (1 :: ·)) H5) ⟨[], Rows.start (Same.refl _) hD2⟩ (fun j H5 _ ⟨ps', z⟩ => (rw4.same.trans z.same).seq rw3.sq) ?_ ?_⟩
    · intro j x H5 hx h5
      obtain ⟨q, row, ps', rfl, hq, lr, rw5, lp, push⟩ := comp 1 H4 D2 j x H5 rw4.same hx h5
      refine ⟨(by show 1 ≤ sizeLine; decide), fun T hT => ⟨_, rfl, T, q, _, _, rfl, rfl, upd_same, by rw [upd_ne (ne_of_none hq hT)]; exact hq, bigE (by rw [List.length_singleton, List.length_map]; omega), fun r' hr' => ?_⟩⟩
      have eD : (upd (upd H5 T (.lst [.int 1])) r' (.lst ([.int 1] ++ row.map V.int))) D2 = some (.lst (ps'.map V.ref)) := (((same_upd hT _).upd hr' _) _ _ rw5.at_)
      exact ⟨_, eD, big (by rw [List.length_map]; omega), _, push T r' _ hT hr' rfl⟩
    rintro H5 ⟨ps', rw5⟩
    rw [et] at rw5
    have l1 := rw4.rows.len
    have l2 := rw5.rows.len
    rw [List.length_map] at l1 l2
    refine ⟨D, D2, _, _, rfl, rfl, rw5.same _ _ rw4.at_, rw5.at_, bigE (by rw [List.length_map, List.length_map]; omega), fun R' hR' => ?_⟩
    have c := rw4.cat rw5 hR'
    exact ⟨R', ps ++ ps', _, rfl, ⟨rw3.same.trans c.same, rw3.same.free c.out, c.at_, c.rows, c.nd, fun q hq => ⟨rw3.same.free (c.new q hq).1, (c.new q hq).2⟩⟩⟩
  · rintro σ H3 ⟨R, qs, o2, rfl, rw3⟩
    exact ⟨_, rfl, q R qs H3 rw3⟩
theorem sc_every_fault : FnScope ["works", "places", "faults", "place", "gate", "body", "leg"] ["works"] (defScope s_every_fault) := ⟨rfl, rfl, rfl, by decide +kernel, rfl, by decide +kernel, by decide +kernel⟩
theorem ok_every_fault (T : Txt K mg t) : FnOk P w K mg base CX0 1 t.f_every_fault t.fd_every_fault ["works"] (sp_faults K) := by
  refine T.d_every_fault.F.okB sc_every_fault (fun vs H Q E h => ?_) (fun cdv A outer s H vs Q E hr h => ?_)
  · obtain ⟨x, w, rfl, _⟩ := h
    rfl
  obtain ⟨x, w, rfl, hx, wf, q⟩ := h
  obtain ⟨a, ga, oa, gs, os, rfl, ha, hg, ho, rg, ro⟩ := gates_at hx
  have lg : gs.length = w.gates.length := by rw [rg.length, List.length_map]
  have i1 := wf.i1
  have i6 := wf.i6
  have few := wf.few
  refine ⟨_, (bpss_cons (bps_setC (k := 1) rfl (N := ["wire"]) (n := 1) (cap := []) (blk_of rfl rfl) sc_every_fault.nd rfl rfl (bpi_range1 rfl T.z_range (bpa_cons (bpe_op op_add (bpe_ix ix_tup (bpv 0) bpe_int (fun _ _ => rfl)) (bpe_callB call_len_seq rfl T.z_len PySem.boot_len (bpa_cons (bpe_ix ix_tup (bpv 0) bpe_int (fun _ _ => rfl)) (bpa_nil)))) (bpa_nil))) (keep_name (by decide)) (fun _ _ _ _ => (bpg_name (k := 0) (show (["wire"] : List Str).Nodup by decide +kernel) rfl (Or.inl rfl))) (fun _ _ _ _ => bpts_nil) (fun _ _ _ _ => (bpe_tup (bpa_cons bpe_str ( bpa_cons (bpv 0) (bpa_nil))))) rfl)
    (bpss_cons (bps_for PassesOwn.never rfl (bpi_enum rfl T.z_enumerate (bpa_cons (bpe_ix ix_tup (bpv 0) bpe_int (fun _ _ => rfl)) (bpa_nil))) (bpg_tup rfl (bpgs_cons (bpg_name (k := 4) sc_every_fault.nd rfl (Or.inl rfl)) (bpgs_cons (bpg_name (k := 5) sc_every_fault.nd rfl (Or.inl rfl)) bpgs_nil))) (bpss_one (bps_for PassesOwn.never rfl (bpi_range1 rfl T.z_range (bpa_cons (bpe_callB call_len_seq rfl T.z_len PySem.boot_len (bpa_cons (bpe_ix ix_tup (bpv 5) bpe_int (fun _ _ => rfl)) (bpa_nil))) (bpa_nil))) (bpg_name (k := 6) sc_every_fault.nd rfl (Or.inl rfl)) (bpss_one (bps_expr (bpe_bm PySem.F.plainAttrs_list PySem.F.slot_list_append PySem.F.type_list_append mt_append (bpv 1) (bpa_cons (bpe_tup (bpa_cons bpe_str ( bpa_cons (bpv 4) ( bpa_cons (bpv 6) (bpa_nil))))) (bpa_nil))))))))
    (bpss_cons (bps_set (k := 2) sc_every_fault.nd rfl (Or.inl rfl) (bpe_lst bpa_nil))
    (bpss_cons (bps_for PassesOwn.never rfl (bpi_list (bpv 1)) (bpg_name (k := 3) sc_every_fault.nd rfl (Or.inl rfl)) (bpss_cons (bps_expr (bpe_bm PySem.F.plainAttrs_list PySem.F.slot_list_append PySem.F.type_list_append mt_append (bpv 2) (bpa_cons (bpe_op op_catT (bpv 3) (bpe_tup (bpa_cons bpe_int (bpa_nil)))) (bpa_nil))))
    (bpss_one (bps_expr (bpe_bm PySem.F.plainAttrs_list PySem.F.slot_list_append PySem.F.type_list_append mt_append (bpv 2) (bpa_cons (bpe_op op_catT (bpv 3) (bpe_tup (bpa_cons bpe_int (bpa_nil)))) (bpa_nil)))))))
    (bpss_one (bps_ret (bpv 2))))))), ?_⟩
  refine ⟨_, rfl, a, _, _, _, rfl, rfl, ha, rfl, _, rfl, a, _, _, _, rfl, rfl, ha, rfl, ga, _, rfl, .inl hg, _, _, rfl, rfl, _, rfl, by omega, by omega, fun pl hpl => ?_⟩
  refine comp_range (fun i H2 => ∃ xs, Bld K H pl xs ((wiresP i).map .tuple) H2) ⟨[], .start hpl⟩ ?_ ?_
  · rintro i H2 hi ⟨xs, b⟩
    rw [Int.zero_add]
    have lx := b.len
    rw [List.length_map, wiresP_len] at lx
    refine ⟨_, rfl, (by show 2 ≤ sizeLine; decide), fun T1 h1 => ⟨xs, (b.new h1 _).at_, big (by omega), xs ++ [.ref T1], ?_⟩⟩
    have := b.pushT (es := [.str "wire", .int i]) h1 (.cons (.str _) (.cons (.int _) .nil))
    simpa [wiresP, wireP] using this
  rintro H2 ⟨xs, b⟩
  have e2 : (w.ins + (gs.length : Int)).toNat = w.ins.toNat + w.gates.length := by omega
  rw [e2] at b
  refine ⟨_, rfl, a, _, _, _, rfl, rfl, b.same.seqT ha, rfl, ga, rfl, ⟨_, b.same.seq hg⟩, for_enum (K := K) (a := ga) (xs := gs)
    (fun i σ H2 => ∃ (xs : List V) (o1 o2 o3 o4 o5 : Option V), σ = [some (.ref a), some (.ref pl), o1, o2, o3, o4, o5] ∧ Bld K H pl xs ((wiresP (w.ins.toNat + w.gates.length) ++ gatesP w.gates i).map .tuple) H2)
    ⟨xs, _, _, _, _, _, rfl, by simpa [gatesP] using b⟩ (fun i σ H2 _ ⟨_, _, _, _, _, _, _, b⟩ => b.same.seq hg) ?_ ?_⟩
  · rintro i x σ H2 T1 hx ⟨xs, o1, o2, o3, o4, o5, rfl, b⟩ h1
    have hi : i < gs.length := (List.getElem?_eq_some_iff.mp hx).1
    obtain ⟨g, hgk⟩ : ∃ g, w.gates[i]? = some g := ⟨_, List.getElem?_eq_getElem (by omega)⟩
    obtain ⟨d, hd, rv⟩ := rg.get hx
    rw [List.getElem?_map, hgk] at hd
    cases hd
    obtain ⟨a1, la, rfl, hA, hL⟩ := gate_at rv
    have lk := (wf.legs i g hgk).1.le
    have ll : ((g.2.map V.int).length : Int) = g.2.length := by rw [List.length_map]
    have b' := b.new h1 (.tup [.int i, .ref a1])
    refine ⟨T1, _, rfl, .of upd_same, rfl, _, _, rfl, _, _, rfl, rfl, ?_⟩
    refine ⟨_, rfl, a1, _, _, _, rfl, rfl, b'.same.seqT hA, rfl, la, _, rfl, .inr (b'.same.seqT hL), _, rfl, by omega, by omega, ?_⟩
    refine for_range (fun j σ H3 => ∃ (xs : List V) (o1 o2 o5 : Option V), σ = [some (.ref a), some (.ref pl), o1, o2, some (.int i), some (.ref a1), o5] ∧
      Bld K H pl xs ((wiresP (w.ins.toNat + w.gates.length) ++ gatesP w.gates i ++ legsP i j).map .tuple) H3) ⟨xs, _, _, _, rfl, by simpa [legsP] using b'⟩ ?_ ?_
    · rintro j σ H3 hj ⟨xs, o1, o2, o5, rfl, b⟩
      rw [Int.zero_add]
      have lx := b.len
      have g1 := gatesP_len wf i
      rw [List.length_map, List.length_append, List.length_append, legsP_len, wiresP_len] at lx
      refine ⟨_, rfl, .inl ⟨rfl, _, b.sq⟩, _, rfl, _, rfl, (by show 3 ≤ sizeLine; decide), fun T2 h2 => ?_⟩
      refine ⟨pl, xs, _, rfl, rfl, (b.new h2 _).at_, big (by omega), xs ++ [.ref T2], _, _, _, rfl, ?_⟩
      have := b.pushT (es := [.str "leg", .int i, .int j]) h2 (.cons (.str _) (.cons (.int _) (.cons (.int _) .nil)))
      simpa [legsP, legP] using this
    · rintro σ H3 ⟨xs, o1, o2, o5, rfl, b⟩
      have e3 : ((g.2.map V.int).length : Int).toNat = g.2.length := by omega
      rw [e3] at b
      exact ⟨xs, _, _, _, _, _, rfl, by simpa [gatesP, hgk, List.append_assoc] using b⟩
  rintro σ H2 ⟨xs, o1, o2, o3, o4, o5, rfl, b⟩
  rw [lg] at b
  have lp : (placesD w).length ≤ 200 := by
    have g1 := gatesP_len wf w.gates.length
    unfold placesD
    rw [List.length_append, wiresP_len]
    omega
  have rp : Reps K H2 xs ((placesD w).map .tuple) := b.reps
  refine ⟨(by show 0 ≤ sizeLine; decide), fun f hf => ?_⟩
  have s1 : Same H2 (upd H2 f (.lst [])) := same_upd hf _
  refine ⟨_, rfl, pl, rfl, ⟨_, s1.seq b.sq⟩, for_list (K := K) (a := pl) (xs := xs)
    (fun i σ H3 => ∃ (ys : List V) (o2 o3 o4 o5 : Option V), σ = [some (.ref a), some (.ref pl), some (.ref f), o2, o3, o4, o5] ∧ Bld K H2 f ys (twice ((placesD w).take i)) H3)
    ⟨[], _, _, _, _, rfl, .start hf⟩ (fun i σ H3 _ ⟨_, _, _, _, _, _, b3⟩ => b3.same.seq b.sq) ?_ ?_⟩
  · rintro i x σ H3 hx ⟨ys, o2, o3, o4, o5, rfl, b3⟩
    obtain ⟨d, hd, rx⟩ := rp.get hx
    rw [List.getElem?_map] at hd
    cases hp : (placesD w)[i]? with
    | none => rw [hp] at hd; cases hd
    | some p =>
      rw [hp] at hd
      cases hd
      cases rx with
      | @tup a1 vs _ h1 r1 =>
        have hi : i < (placesD w).length := (List.getElem?_eq_some_iff.mp hp).1
        have et : (placesD w).take (i + 1) = (placesD w).take i ++ [p] := by
          rw [List.take_add_one, hp]
          rfl
        have pne : vs ≠ [] := by
          intro z
          subst z
          cases r1
          exact places_ne hp
        have lv : vs.length ≤ 3 := by
          rw [r1.length]
          exact places_le hp
        have ly := b3.len
        rw [twice_len, List.length_take] at ly
        refine ⟨_, rfl, .inl ⟨rfl, _, b3.sq⟩, _, rfl, (by show 1 ≤ sizeLine; decide), fun T1 n1 => ?_⟩
        have c1 := b3.new n1 (.tup [.int 0])
        refine ⟨a1, T1, vs, _, rfl, rfl, c1.same.seqT h1, .of upd_same, pne, bigE (by simp; omega), (fun z => nomatch z), fun _ T2 n2 => ?_⟩
        have c2 := c1.pushT n2 (r1.snoc (.int 0))
        refine ⟨f, ys, _, rfl, rfl, (c1.new n2 _).at_, big (by omega), ?_⟩
        refine ⟨_, rfl, .inl ⟨rfl, _, c2.sq⟩, _, rfl, (by show 1 ≤ sizeLine; decide), fun T3 n3 => ?_⟩
        have c3 := c2.new n3 (.tup [.int 1])
        refine ⟨a1, T3, vs, _, rfl, rfl, c3.same.seqT h1, .of upd_same, pne, bigE (by simp; omega), (fun z => nomatch z), fun _ T4 n4 => ?_⟩
        have c4 := c3.pushT n4 (r1.snoc (.int 1))
        refine ⟨f, _, _, rfl, rfl, (c3.new n4 _).at_, big (by simp; omega), ys ++ [.ref T2] ++ [.ref T4], _, _, _, _, rfl, ?_⟩
        rw [et, twice_append, twice_one]
        simpa [List.append_assoc] using c4
  · rintro σ H3 ⟨ys, o2, o3, o4, o5, rfl, b3⟩
    have e5 : (placesD w).take xs.length = placesD w := by
      rw [b.len]
      show (placesD w).take ((placesD w).map Dat.tuple).length = _
      rw [List.length_map, List.take_length]
    rw [e5, twice_places] at b3
    exact ⟨_, rfl, q f ys H3 ⟨by
      obtain ⟨G, g1, g2, g3, g4⟩ := b3.ex
      exact ⟨G, b.same.trans g1, g2, g3, g4⟩, b3.at_⟩⟩
theorem sc_are_wires_below : FnScope ["numbers", "bound"] ["numbers", "bound"] (defScope s_are_wires_below) := ⟨rfl, rfl, rfl, by decide +kernel, rfl, by decide +kernel, by decide +kernel⟩
theorem ok_are_wires_below (T : Txt K mg t) : FnOk P w K mg base CX0 1 t.f_are_wires_below t.fd_are_wires_below ["numbers", "bound"] (sp_awb K) := by
  refine T.d_are_wires_below.F.okB sc_are_wires_below (fun vs H Q E h => ?_) (fun cdv A outer s H vs Q E hr h => ?_)
  · obtain ⟨p, bnd, ns, rfl, _⟩ := h
    rfl
  obtain ⟨p, bnd, ns, rfl, hS, lz, q⟩ := h
  have step : ∀ (j : Nat) (n : Int) (D : Addr) (H2 : Hp), ns[j]? = some n → H D = none → Same H H2 → H2 D = some (.lst (((ns.take j).map fun n => decide (0 ≤ n ∧ n < bnd)).map V.bl)) →
      Same H (upd H2 D (.lst (((ns.take j).map fun n => decide (0 ≤ n ∧ n < bnd)).map V.bl ++ [.bl (decide (0 ≤ n ∧ n < bnd))]))) ∧ (upd H2 D (.lst (((ns.take j).map fun n => decide (0 ≤ n ∧ n < bnd)).map V.bl ++ [.bl (decide (0 ≤ n ∧ n < bnd))]))) D = some (.lst (((ns.take (j + 1)).map fun n => decide (0 ≤ n ∧ n < bnd)).map V.bl)) := by
    intro j n D H2 hz hD s2 eD
    refine ⟨s2.write hD _, ?_⟩
    rw [upd_same, List.take_add_one, hz, List.map_append, List.map_append]
    rfl
  have fin : ∀ (D : Addr) (H2 : Hp), Same H H2 → H2 D = some (.lst (((ns.take (ns.map V.int).length).map fun n => decide (0 ≤ n ∧ n < bnd)).map V.bl)) → ∃ (p : Addr) (bs : List Bool), [V.ref D] = [.ref p] ∧ SqL K H2 p (bs.map V.bl) ∧ Q (.bl (bs.all id)) H2 := by
    intro D H2 s2 eD
    have et : ns.take (ns.map V.int).length = ns := by rw [List.length_map, List.take_length]
    rw [et] at eD
    refine ⟨D, _, rfl, .of eD, ?_⟩
    have e : (ns.map fun n => decide (0 ≤ n ∧ n < bnd)).all id = ns.all fun n => decide (0 ≤ n ∧ n < bnd) := by rw [List.all_map]; rfl
    rw [e]
    exact q H2 s2
  rcases hS with hS | hS
  · refine ⟨_, (bpss_one (bps_ret (bpe_callB (call_allL rfl) rfl T.z_all PyProof.Rows.boot_all (bpa_cons (bpe_comp rfl (N := ["number", "bound"]) (n := 1) (cap := [1]) (blk_of rfl rfl) (bpi_list (bpv 0)) (keep_name (by decide)) (fun _ _ _ _ => (bpg_name (k := 0) (show (["number", "bound"] : List Str).Nodup by decide +kernel) rfl (Or.inl rfl))) (fun _ _ _ _ => bpts_nil) (fun _ _ _ _ => (bpe_chain op_le op_lt bpe_int (bpv 0) (bpv 1)))) (bpa_nil))))), ?_⟩
    refine ⟨_, rfl, p, rfl, ⟨_, hS⟩, fun D hD => comp_list (K := K) (a := p) (xs := ns.map V.int) (fun j H2 => Same H H2 ∧ H2 D = some (.lst (((ns.take j).map fun n => decide (0 ≤ n ∧ n < bnd)).map V.bl))) ⟨same_upd hD _, upd_same⟩ (fun j H2 _ z => z.1.seq hS) ?_ (fun H2 ⟨s2, eD⟩ => fin D H2 s2 eD)⟩
    rintro j y H2 hy ⟨s2, eD⟩
    rw [List.getElem?_map] at hy
    cases hz : ns[j]? with
    | none => rw [hz] at hy; cases hy
    | some n =>
      rw [hz] at hy
      cases hy
      have lj : j < ns.length := (List.getElem?_eq_some_iff.mp hz).1
      have st := step j n D H2 hz hD s2 eD
      have lb : (((ns.take j).map fun n => decide (0 ≤ n ∧ n < bnd)).map V.bl).length < sizeLine := big (by rw [List.length_map, List.length_map, List.length_take]; omega)
      refine ⟨_, rfl, _, _, rfl, rfl, _, rfl, ite2 (fun c => ?_) (fun c => ?_)⟩
      · have c' : 0 ≤ n := of_decide_eq_true c
        refine ⟨_, rfl, _, _, rfl, rfl, _, eD, lb, ?_⟩
        have e : decide (0 ≤ n ∧ n < bnd) = decide (n < bnd) := by
          by_cases z : n < bnd
          · rw [decide_eq_true z, decide_eq_true ⟨c', z⟩]
          · rw [decide_eq_false z, decide_eq_false fun y => z y.2]
        rw [e] at st
        exact st
      · have c' : ¬ 0 ≤ n := fun z => c (decide_eq_true z)
        refine ⟨_, eD, lb, ?_⟩
        have e : decide (0 ≤ n ∧ n < bnd) = false := decide_eq_false fun y => c' y.1
        rw [e] at st
        exact st
  · refine ⟨_, (bpss_one (bps_ret (bpe_callB (call_allL rfl) rfl T.z_all PyProof.Rows.boot_all (bpa_cons (bpe_comp rfl (N := ["number", "bound"]) (n := 1) (cap := [1]) (blk_of rfl rfl) (bpi_tup (bpv 0)) (keep_name (by decide)) (fun _ _ _ _ => (bpg_name (k := 0) (show (["number", "bound"] : List Str).Nodup by decide +kernel) rfl (Or.inl rfl))) (fun _ _ _ _ => bpts_nil) (fun _ _ _ _ => (bpe_chain op_le op_lt bpe_int (bpv 0) (bpv 1)))) (bpa_nil))))), ?_⟩
    refine ⟨_, rfl, p, rfl, ⟨_, hS⟩, fun D hD => comp_tup (K := K) (a := p) (xs := ns.map V.int) (fun j H2 => Same H H2 ∧ H2 D = some (.lst (((ns.take j).map fun n => decide (0 ≤ n ∧ n < bnd)).map V.bl))) ⟨same_upd hD _, upd_same⟩ (fun j H2 _ z => z.1.seqT hS) ?_ (fun H2 ⟨s2, eD⟩ => fin D H2 s2 eD)⟩
    rintro j y H2 hy ⟨s2, eD⟩
    rw [List.getElem?_map] at hy
    cases hz : ns[j]? with
    | none => rw [hz] at hy; cases hy
    | some n =>
      rw [hz] at hy
      cases hy
      have lj : j < ns.length := (List.getElem?_eq_some_iff.mp hz).1
      have st := step j n D H2 hz hD s2 eD
      have lb : (((ns.take j).map fun n => decide (0 ≤ n ∧ n < bnd)).map V.bl).length < sizeLine := big (by rw [List.length_map, List.length_map, List.length_take]; omega)
      refine ⟨_, rfl, _, _, rfl, rfl, _, rfl, ite2 (fun c => ?_) (fun c => ?_)⟩
      · have c' : 0 ≤ n := of_decide_eq_true c
        refine ⟨_, rfl, _, _, rfl, rfl, _, eD, lb, ?_⟩
        have e : decide (0 ≤ n ∧ n < bnd) = decide (n < bnd) := by
          by_cases z : n < bnd
          · rw [decide_eq_true z, decide_eq_true ⟨c', z⟩]
          · rw [decide_eq_false z, decide_eq_false fun y => z y.2]
        rw [e] at st
        exact st
      · have c' : ¬ 0 ≤ n := fun z => c (decide_eq_true z)
        refine ⟨_, eD, lb, ?_⟩
        have e : decide (0 ≤ n ∧ n < bnd) = false := decide_eq_false fun y => c' y.1
        rw [e] at st
        exact st
theorem sc_is_kind : FnScope ["word"] ["word"] (defScope s_is_kind) := ⟨rfl, rfl, rfl, by decide +kernel, rfl, by decide +kernel, by decide +kernel⟩
theorem ok_is_kind (T : Txt K mg t) : FnOk P w K mg base CX0 1 t.f_is_kind t.fd_is_kind ["word"] (sp_ik K) := by
  refine T.d_is_kind.F.okB sc_is_kind (fun vs H Q E h => ?_) (fun cdv A outer s H vs Q E hr h => ?_)
  · obtain ⟨x, rfl, _⟩ := h
    rfl
  obtain ⟨x, rfl, q⟩ := h
  refine ⟨_, (bpss_one (bps_ret (bpe_cmpR op_inTab (bpv 0) (bpe_glob (v := .ref t.c_LEG_BOUNDS) rfl T.g_LEG_BOUNDS rfl) rfl))), ?_⟩
  exact ⟨_, rfl, x, t.c_LEG_BOUNDS, tab_LEG_BOUNDS, rfl, rfl, T.k_LEG_BOUNDS, q⟩
theorem sc_check_gate : FnScope ["kind", "legs", "own_wire", "bounds"] ["kind", "legs", "own_wire"] (defScope s_check_gate) := ⟨rfl, rfl, rfl, by decide +kernel, rfl, by decide +kernel, by decide +kernel⟩
theorem bounds_of {x : Str} {n : Nat} (h : legsOk x n) : ∃ lo hi : Int, PyProof.Rows.KTD.datumAt x tab_LEG_BOUNDS = some (.tup ([lo, hi].map PyData.int)) ∧ PyProof.Rows.KTD.inKeys x tab_LEG_BOUNDS = true ∧ lo ≤ (n : Int) ∧ (n : Int) ≤ hi := by
  rcases h with ⟨h | h | h, l1, l2⟩ | ⟨h, l1⟩ | ⟨h, l1⟩ | ⟨h | h, l1⟩ <;> subst h
  · exact ⟨2, 4, by kernel_rfl, by kernel_rfl, by omega, by omega⟩
  · exact ⟨2, 4, by kernel_rfl, by kernel_rfl, by omega, by omega⟩
  · exact ⟨2, 4, by kernel_rfl, by kernel_rfl, by omega, by omega⟩
  · exact ⟨1, 1, by kernel_rfl, by kernel_rfl, by omega, by omega⟩
  · exact ⟨3, 3, by kernel_rfl, by kernel_rfl, by omega, by omega⟩
  · exact ⟨0, 0, by kernel_rfl, by kernel_rfl, by omega, by omega⟩
  · exact ⟨0, 0, by kernel_rfl, by kernel_rfl, by omega, by omega⟩
theorem ok_check_gate (T : Txt K mg t) : FnOk P w K mg base CX0 2 t.f_check_gate t.fd_check_gate ["kind", "legs", "own_wire"] (sp_cg K) := by
  refine T.d_check_gate.F.okB sc_check_gate (fun vs H Q E h => ?_) (fun cdv A outer s H vs Q E hr h => ?_)
  · obtain ⟨x, la, own, ls, rfl, _⟩ := h
    rfl
  obtain ⟨x, la, own, ls, rfl, hL, lk, lb, q⟩ := h
  obtain ⟨lo, hi, e1, e2, b1, b2⟩ := bounds_of lk
  have l4 := lk.le
  refine ⟨_, (bpss_cons (bps_if (bpt_not (bpt_val (bpe_call (ok_is_kind T) (hr.mono (by decide)) rfl T.d_is_kind.m T.d_is_kind.F.kp T.d_is_kind.b .nil pass0 (bpa_cons (bpv 0) (bpa_nil))))) (bpss_one bps_never) bpss_nil)
    (bpss_cons (bps_set (k := 3) sc_check_gate.nd rfl (Or.inl rfl) (bpe_ix ix_tab (bpe_glob (v := .ref t.c_LEG_BOUNDS) rfl T.g_LEG_BOUNDS rfl) (bpv 0) (fun _ _ => rfl)))
    (bpss_cons (bps_if (bPW_pt (bpw_or (bpt_cmpR op_lt (bpe_callB call_len_seq rfl T.z_len PySem.boot_len (bpa_cons (bpv 1) (bpa_nil))) (bpe_ix ix_tup (bpv 3) bpe_int (fun _ _ => rfl)) (nomark _)) (bpw_or1 (bpt_cmpR op_gt (bpe_callB call_len_seq rfl T.z_len PySem.boot_len (bpa_cons (bpv 1) (bpa_nil))) (bpe_ix ix_tup (bpv 3) bpe_int (fun _ _ => rfl)) (nomark _))))) (bpss_one bps_never) bpss_nil)
    (bpss_one (bps_if (bpt_not (bpt_val (bpe_call (ok_are_wires_below T) (hr.mono (by decide)) rfl T.d_are_wires_below.m T.d_are_wires_below.F.kp T.d_are_wires_below.b .nil pass0 (bpa_cons (bpv 1) ( bpa_cons (bpv 2) (bpa_nil)))))) (bpss_one bps_never) bpss_nil))))), ?_⟩
  refine ⟨_, rfl, x, rfl, _, rfl, ?_⟩
  rw [e2]
  refine iteF ⟨_, rfl, t.c_LEG_BOUNDS, x, tab_LEG_BOUNDS, [lo, hi], rfl, rfl, T.k_LEG_BOUNDS, e1, (by show 2 ≤ 1000; decide), fun bp hb => ?_⟩
  have ll : ((ls.map V.int).length : Int) = ls.length := by rw [List.length_map]
  refine ⟨_, rfl, la, _, rfl, .inr hL, _, rfl, bp, _, _, _, rfl, rfl, hb, rfl, _, _, rfl, rfl, _, rfl, ite2 (fun c => absurd (of_decide_eq_true c) (by omega)) (fun _ => ?_)⟩
  refine ⟨_, rfl, la, _, rfl, .inr hL, _, rfl, bp, _, _, _, rfl, rfl, hb, rfl, _, _, rfl, rfl, _, rfl, ite2 (fun c => absurd (of_decide_eq_true c) (by omega)) (fun _ => ?_)⟩
  refine ⟨_, rfl, _, rfl, la, own, ls, rfl, .inr hL, by omega, fun H2 s2 => ?_⟩
  have e3 : (ls.all fun n => decide (0 ≤ n ∧ n < own)) = true := List.all_eq_true.mpr fun n hn => decide_eq_true (lb n hn)
  rw [e3]
  exact ⟨_, rfl, iteF (q H2 s2)⟩
theorem sc_works_of : FnScope ["inputs", "gates", "outputs", "gate", "body"] ["inputs", "gates", "outputs"] (defScope s_works_of) := ⟨rfl, rfl, rfl, by decide +kernel, rfl, by decide +kernel, by decide +kernel⟩
theorem ok_works_of (T : Txt K mg t) : FnOk P w K mg base CX0 3 t.f_works_of t.fd_works_of ["inputs", "gates", "outputs"] (sp_wo K) := by
  refine T.d_works_of.F.okB sc_works_of (fun vs H Q E h => ?_) (fun cdv A outer s H vs Q E hr h => ?_)
  · obtain ⟨w, ga, oa, gs, os, rfl, _⟩ := h
    rfl
  obtain ⟨w, ga, oa, gs, os, rfl, hg, ho, rg, ro, wf, q⟩ := h
  have lg : gs.length = w.gates.length := by rw [rg.length, List.length_map]
  have lo : os.length = w.outs.length := by rw [ro.length, List.length_map]
  have eo := reps_ints ro
  have i1 := wf.i1
  have o1 := wf.o1
  have o3 := wf.o3
  have few := wf.few
  refine ⟨_, (bpss_cons (bps_if (bpt_cmpR op_lt (bpv 0) bpe_int (nomark _)) (bpss_one bps_never) bpss_nil)
    (bpss_cons (bps_for PassesOwn.never rfl (bpi_enum rfl T.z_enumerate (bpa_cons (bpv 1) (bpa_nil))) (bpg_tup rfl (bpgs_cons (bpg_name (k := 3) sc_works_of.nd rfl (Or.inl rfl)) (bpgs_cons (bpg_name (k := 4) sc_works_of.nd rfl (Or.inl rfl)) bpgs_nil))) (bpss_one (bps_expr (bpe_call (ok_check_gate T) (hr.mono (by decide)) rfl T.d_check_gate.m T.d_check_gate.F.kp T.d_check_gate.b .nil pass0 (bpa_cons (bpe_ix ix_tup (bpv 4) bpe_int (fun _ _ => rfl)) ( bpa_cons (bpe_ix ix_tup (bpv 4) bpe_int (fun _ _ => rfl)) ( bpa_cons (bpe_op op_add (bpv 0) (bpv 3)) (bpa_nil))))))))
    (bpss_cons (bps_if (bpt_cmpR op_eq (bpe_callB call_len_seq rfl T.z_len PySem.boot_len (bpa_cons (bpv 2) (bpa_nil))) bpe_int (nomark _)) (bpss_one bps_never) bpss_nil)
    (bpss_cons (bps_if (bpt_not (bpt_val (bpe_call (ok_are_wires_below T) (hr.mono (by decide)) rfl T.d_are_wires_below.m T.d_are_wires_below.F.kp T.d_are_wires_below.b .nil pass0 (bpa_cons (bpv 2) ( bpa_cons (bpe_op op_add (bpv 0) (bpe_callB call_len_seq rfl T.z_len PySem.boot_len (bpa_cons (bpv 1) (bpa_nil)))) (bpa_nil)))))) (bpss_one bps_never) bpss_nil)
    (bpss_one (bps_ret (bpe_tup (bpa_cons (bpv 0) ( bpa_cons (bpe_callTy call_list_of rfl T.z_list PyProof.Rows.boot_list (bpa_cons (bpv 1) (bpa_nil))) ( bpa_cons (bpe_callTy call_list_of rfl T.z_list PyProof.Rows.boot_list (bpa_cons (bpv 2) (bpa_nil))) (bpa_nil))))))))))), ?_⟩
  refine ⟨_, rfl, _, _, rfl, rfl, _, rfl, ite2 (fun c => absurd (of_decide_eq_true c) (by omega)) (fun _ => ?_)⟩
  refine ⟨_, rfl, ga, rfl, ⟨_, hg⟩, for_enum (K := K) (a := ga) (xs := gs) (fun i σ H2 => ∃ (o3 o4 : Option V), σ = [some (.int w.ins), some (.ref ga), some (.ref oa), o3, o4] ∧ Same H H2) ⟨_, _, rfl, Same.refl _⟩ (fun i σ H2 _ ⟨_, _, _, s2⟩ => s2.seq hg) ?_ ?_⟩
  · rintro i x σ H2 T1 hx ⟨o3, o4, rfl, s2⟩ h1
    have hi : i < gs.length := (List.getElem?_eq_some_iff.mp hx).1
    obtain ⟨g, hgk⟩ : ∃ g, w.gates[i]? = some g := ⟨_, List.getElem?_eq_getElem (by omega)⟩
    obtain ⟨d, hd, rv⟩ := rg.get hx
    rw [List.getElem?_map, hgk] at hd
    cases hd
    obtain ⟨a1, la, rfl, hA, hL⟩ := gate_at rv
    obtain ⟨lk, lb⟩ := wf.legs i g hgk
    have s3 := s2.upd h1 (.tup [.int i, .ref a1])
    refine ⟨T1, _, rfl, .of upd_same, rfl, _, _, rfl, _, _, rfl, rfl, ?_⟩
    exact ⟨_, rfl, a1, _, _, _, rfl, rfl, s3.seqT hA, rfl, _, rfl, a1, _, _, _, rfl, rfl, s3.seqT hA, rfl, _, rfl, _, rfl, _, _, rfl, rfl, g.1, la, w.ins + (i : Int), g.2, rfl, s3.seqT hL, lk, lb, fun H3 s4 => ⟨_, _, rfl, s3.trans s4⟩⟩
  rintro σ H2 ⟨o3, o4, rfl, s2⟩
  refine ⟨_, rfl, oa, _, rfl, .inl (s2.seq ho), rfl, _, rfl, ite2 (fun c => absurd (V.int.inj (of_decide_eq_true c)) (by omega)) (fun _ => ?_)⟩
  refine ⟨_, rfl, _, rfl, _, rfl, ga, _, rfl, .inl (s2.seq hg), _, _, rfl, rfl, oa, _, w.outs, rfl, .inl (by rw [← eo]; exact s2.seq ho), by omega, fun H3 s3 => ?_⟩
  have e3 : (w.outs.all fun n => decide (0 ≤ n ∧ n < w.ins + ((gs.length : Nat) : Int))) = true := List.all_eq_true.mpr fun n hn => decide_eq_true (by have := wf.outs n hn; rw [lg]; exact this)
  rw [e3]
  refine ⟨_, rfl, iteF ?_⟩
  have s23 := s2.trans s3
  refine ⟨_, rfl, _, rfl, ga, _, rfl, .inl (s23.seq hg), fun g hgn => ?_⟩
  have k1 := same_upd hgn (.lst gs)
  refine ⟨_, rfl, oa, _, rfl, .inl ((s23.trans k1).seq ho), fun o hon => ?_⟩
  have k2 := same_upd hon (.lst os)
  refine ⟨(by show 3 ≤ sizeLine; decide), fun r hrn => ?_⟩
  have k3 := same_upd hrn (.tup [.int w.ins, .ref g, .ref o])
  exact q r g o _ (((s23.trans k1).trans k2).trans k3) (((s23.trans k1).trans k2).free hrn) (s23.free hgn) ((s23.trans k1).free hon) (ne_of_none upd_same hon) (ne_of_none (k2 _ _ upd_same) hrn) (ne_of_none upd_same hrn) ((k2.trans k3) _ _ upd_same) (k3 _ _ upd_same) upd_same
theorem sc_shown_row : FnScope ["word", "numbers"] ["word", "numbers"] (defScope s_shown_row) := ⟨rfl, rfl, rfl, by decide +kernel, rfl, by decide +kernel, by decide +kernel⟩
theorem ok_shown_row (T : Txt K mg t) : FnOk P w K mg base CX0 1 t.f_shown_row t.fd_shown_row ["word", "numbers"] (sp_shr K) := by
  refine T.d_shown_row.F.okB sc_shown_row (fun vs H Q E h => ?_) (fun cdv A outer s H vs Q E hr h => ?_)
  · obtain ⟨f, p, rfl, _⟩ := h
    rfl
  obtain ⟨f, p, rfl, ok, hp, q⟩ := h
  have hu64 := hr.units
  have l3 := ok.few
  rcases hp with hp | hp
  · refine ⟨_, (bpss_one (bps_ret (bpe_bm PySem.F.plainAttrs_str PySem.F.slot_str_join PySem.F.type_str_join mt_join bpe_str (bpa_cons (bpe_op op_cat (bpe_lst (bpa_cons (bpv 0) (bpa_nil))) (bpe_comp rfl (N := ["number"]) (n := 1) (cap := []) (blk_of rfl rfl) (bpi_list (bpv 1)) (keep_name (by decide)) (fun _ _ _ _ => (bpg_name (k := 0) (show (["number"] : List Str).Nodup by decide +kernel) rfl (Or.inl rfl))) (fun _ _ _ _ => bpts_nil) (fun _ _ _ _ => (bpe_callTy call_str_int rfl T.z_str PyProof.Rows.boot_str (bpa_cons (bpv 0) (bpa_nil)))))) (bpa_nil))))), ?_⟩
    refine ⟨rfl, _, rfl, (by show 1 ≤ sizeLine; decide), fun L hL => ?_⟩
    have kL := same_upd hL (.lst [.str f.word])
    refine ⟨_, rfl, p, rfl, ⟨_, kL.seq hp⟩, fun D hD => comp_list (K := K) (a := p) (xs := f.ns.map V.int)
      (fun j H4 => Same (upd H L (.lst [.str f.word])) H4 ∧ H4 D = some (.lst (((f.ns.take j).map numS).map V.str))) ⟨same_upd hD _, upd_same⟩ (fun j H4 _ z => z.1.seq (kL.seq hp)) ?_ ?_⟩
    · rintro j y H4 hy ⟨s4, eD⟩
      rw [List.getElem?_map] at hy
      cases hz : f.ns[j]? with
      | none => rw [hz] at hy; cases hy
      | some n =>
        rw [hz] at hy
        cases hy
        have hn := ok.num n (List.mem_of_getElem? hz)
        refine ⟨_, rfl, n, rfl, log_ok hn, _, eD, big (by rw [List.length_map, List.length_map, List.length_take]; omega), s4.write hD _, ?_⟩
        rw [upd_same, List.take_add_one, hz, List.map_append, List.map_append]
        rfl
    rintro H4 ⟨s4, eD⟩
    rw [List.length_map, List.take_length] at eD
    refine ⟨L, D, _, _, rfl, rfl, s4 _ _ upd_same, eD, bigE (by rw [List.length_map, List.length_map]; show 1 + _ ≤ _; omega), fun C hC => ?_⟩
    have kC := same_upd hC (.lst ([.str f.word] ++ (f.ns.map numS).map V.str))
    have hw := ok.short
    have hs := sum_le (g := fun z : Str => z.length) (k := 41) (l := f.ns.map numS) fun z hz => by
      obtain ⟨n, hn, rfl⟩ := List.mem_map.mp hz
      exact numS_len (ok.num n hn)
    rw [List.length_map] at hs
    refine ⟨_, C, f.word :: f.ns.map numS, rfl, rfl, upd_same, by rw [List.length_cons]; omega, ?_, ?_⟩
    · rw [List.map_cons, List.sum_cons, List.length_cons, List.length_map, blank]
      show f.word.length + _ + (f.ns.length + 1) * 1 ≤ 100000
      omega
    · rw [join_txt ok]
      exact q _ ((kL.trans s4).trans kC)
  · refine ⟨_, (bpss_one (bps_ret (bpe_bm PySem.F.plainAttrs_str PySem.F.slot_str_join PySem.F.type_str_join mt_join bpe_str (bpa_cons (bpe_op op_cat (bpe_lst (bpa_cons (bpv 0) (bpa_nil))) (bpe_comp rfl (N := ["number"]) (n := 1) (cap := []) (blk_of rfl rfl) (bpi_tup (bpv 1)) (keep_name (by decide)) (fun _ _ _ _ => (bpg_name (k := 0) (show (["number"] : List Str).Nodup by decide +kernel) rfl (Or.inl rfl))) (fun _ _ _ _ => bpts_nil) (fun _ _ _ _ => (bpe_callTy call_str_int rfl T.z_str PyProof.Rows.boot_str (bpa_cons (bpv 0) (bpa_nil)))))) (bpa_nil))))), ?_⟩
    refine ⟨rfl, _, rfl, (by show 1 ≤ sizeLine; decide), fun L hL => ?_⟩
    have kL := same_upd hL (.lst [.str f.word])
    refine ⟨_, rfl, p, rfl, ⟨_, kL.seqT hp⟩, fun D hD => comp_tup (K := K) (a := p) (xs := f.ns.map V.int)
      (fun j H4 => Same (upd H L (.lst [.str f.word])) H4 ∧ H4 D = some (.lst (((f.ns.take j).map numS).map V.str))) ⟨same_upd hD _, upd_same⟩ (fun j H4 _ z => z.1.seqT (kL.seqT hp)) ?_ ?_⟩
    · rintro j y H4 hy ⟨s4, eD⟩
      rw [List.getElem?_map] at hy
      cases hz : f.ns[j]? with
      | none => rw [hz] at hy; cases hy
      | some n =>
        rw [hz] at hy
        cases hy
        have hn := ok.num n (List.mem_of_getElem? hz)
        refine ⟨_, rfl, n, rfl, log_ok hn, _, eD, big (by rw [List.length_map, List.length_map, List.length_take]; omega), s4.write hD _, ?_⟩
        rw [upd_same, List.take_add_one, hz, List.map_append, List.map_append]
        rfl
    rintro H4 ⟨s4, eD⟩
    rw [List.length_map, List.take_length] at eD
    refine ⟨L, D, _, _, rfl, rfl, s4 _ _ upd_same, eD, bigE (by rw [List.length_map, List.length_map]; show 1 + _ ≤ _; omega), fun C hC => ?_⟩
    have kC := same_upd hC (.lst ([.str f.word] ++ (f.ns.map numS).map V.str))
    have hw := ok.short
    have hs := sum_le (g := fun z : Str => z.length) (k := 41) (l := f.ns.map numS) fun z hz => by
      obtain ⟨n, hn, rfl⟩ := List.mem_map.mp hz
      exact numS_len (ok.num n hn)
    rw [List.length_map] at hs
    refine ⟨_, C, f.word :: f.ns.map numS, rfl, rfl, upd_same, by rw [List.length_cons]; omega, ?_, ?_⟩
    · rw [List.map_cons, List.sum_cons, List.length_cons, List.length_map, blank]
      show f.word.length + _ + (f.ns.length + 1) * 1 ≤ 100000
      omega
    · rw [join_txt ok]
      exact q _ ((kL.trans s4).trans kC)
theorem sc_read_number : FnScope ["text", "number", "sign"] ["text"] (defScope s_read_number) := ⟨rfl, rfl, rfl, by decide +kernel, rfl, by decide +kernel, by decide +kernel⟩
theorem ok_read_number (T : Txt K mg t) : FnOk P w K mg base CX0 1 t.f_read_number t.fd_read_number ["text"] sp_rdn := by
  refine T.d_read_number.F.okB sc_read_number (fun vs H Q E h => ?_) (fun cdv A outer s H vs Q E hr h => ?_)
  · obtain ⟨n, rfl, _⟩ := h
    rfl
  obtain ⟨n, rfl, n41, q⟩ := h
  have hu64 := hr.units
  have hd := digs_in n
  have ll : (digs n).length ≤ 41 := digs_len n 41 n41 (by decide)
  have sl : sizeLine = 16777216 := by decide
  refine ⟨_, (bpss_cons (bps_if (bPW_pt (bpw_or (bpt_cmpR op_eq (bpv 0) bpe_str (nomark _)) (bpw_or1 (bPW_pt (bpw_and (bpt_cmpR op_eq (bpe_ix ix_str (bpv 0) bpe_int (fun _ _ => rfl)) bpe_str (nomark _)) (bpw_and1 (bpt_cmpR op_ne (bpv 0) bpe_str (nomark _)))))))) (bpss_one bps_never) bpss_nil)
    (bpss_cons (bps_set (k := 1) sc_read_number.nd rfl (Or.inl rfl) bpe_int)
    (bpss_cons (bps_for PassesOwn.never rfl (bpi_str (bpv 0)) (bpg_name (k := 2) sc_read_number.nd rfl (Or.inl rfl)) (bpss_cons (bps_if (bpt_cmpR op_notin_str (bpv 2) (bpe_glob (v := .str "0123456789") rfl T.g_FIGURES ⟨_, rfl⟩) rfl) (bpss_one bps_never) bpss_nil)
    (bpss_one (bps_set (k := 1) sc_read_number.nd rfl (Or.inl rfl) (bpe_op op_add (bpe_op op_mulB (bpv 1) bpe_int) (bpe_bm PySem.F.plainAttrs_str PySem.F.slot_str_index PySem.F.type_str_index mt_index (bpe_glob (v := .str "0123456789") rfl T.g_FIGURES ⟨_, rfl⟩) (bpa_cons (bpv 2) (bpa_nil))))))))
    (bpss_one (bps_ret (bpv 1)))))), ?_⟩
  cases e : digs n with
  | nil => exact absurd e (digs_ne n)
  | cons c r =>
    rw [← e]
    have z0 : ¬ (V.str ⟨(digs n).toArray⟩ = V.str (Str.ofString "")) := fun z => by
      have := congrArg (fun x : Str => x.cps.toList) (V.str.inj z)
      rw [tl, e] at this
      exact absurd this (by rw [show (Str.ofString "").cps.toList = [] by decide +kernel]; exact fun z => nomatch z)
    refine ⟨_, rfl, rfl, _, rfl, ite2 (fun hc => absurd (of_decide_eq_true hc) z0) (fun _ => ?_)⟩
    refine ⟨_, rfl, _, 0, c, rfl, rfl, (by show (digs n).toArray.size ≤ sizeLine; rw [List.size_toArray]; omega), (by rw [tl, e]; exact atI_nat (j := 0) rfl), rfl, _, rfl, ?_⟩
    refine' joinX (α := Unit) (C := fun _ Hx => H = Hx) (st := fun _ => [some (.str ⟨(digs n).toArray⟩), none, none]) (fun rest => _) _
    rotate_left
    · refine ite2 (fun hc => ?_) (fun hc => iteF (rest () _ rfl))
      have hc' := V.str.inj (of_decide_eq_true hc)
      have c48 : c = 48 := by
        have := congrArg (fun x : Str => x.cps.toList) hc'
        rw [show (Str.ofString "0").cps.toList = [48] by decide +kernel] at this
        exact (List.cons.inj this).1
      subst c48
      have r0 := digs_first n r e
      subst r0
      have z1 : (⟨(digs n).toArray⟩ : Str) = Str.ofString "0" := by rw [e]; decide +kernel
      refine ⟨_, rfl, rfl, _, rfl, ite2 (fun h => ?_) (fun _ => rest () _ rfl)⟩
      rw [z1, decide_eq_true rfl] at h
      cases h
    rintro _ _ rfl
    have asc : (⟨(digs n).toArray⟩ : Str).cps.all (· < 128) = true := by
      rw [← Array.all_toList, tl, List.all_eq_true]
      intro c hc
      have := hd c hc
      exact decide_eq_true (by omega)
    refine ⟨_, rfl, _, rfl, asc, for_str (fun i σ H3 => ∃ o2 : Option V, σ = [some (.str ⟨(digs n).toArray⟩), some (.int (readN ((digs n).take i) : Nat)), o2] ∧ H3 = H) ⟨_, rfl, rfl⟩ ?_ ?_⟩
    · rintro i c σ H3 hi ⟨o2, rfl, rfl⟩
      rw [tl] at hi
      have hc := hd c (List.mem_of_getElem? hi)
      have occ := fig_at hc
      have nb : readN ((digs n).take i) ≤ n := by
        have := readN_le ((digs n).take i) ((digs n).drop i)
        rw [List.take_append_drop, read_digs] at this
        exact this
      have lt : ((readN ((digs n).take i) : Nat) : Int) < 2 ^ 140 := by
        have e2 : (10 : Nat) ^ 41 < 2 ^ 140 := by decide +kernel
        have : readN ((digs n).take i) < 2 ^ 140 := by omega
        exact_mod_cast this
      refine ⟨_, rfl, _, _, rfl, rfl, _, rfl, ?_⟩
      rw [occ]
      refine iteF ?_
      refine ⟨_, rfl, _, _, rfl, rfl, ⟨bits_of (k := 140) (by decide) (by omega) lt, bits_of (k := 5) (by decide) (by decide) (by decide)⟩, ?_⟩
      refine ⟨rfl, _, rfl, _, _, _, _, rfl, rfl, occ, _, _, rfl, rfl, some (.str ⟨#[c]⟩), ?_, rfl⟩
      have e3 : readN ((digs n).take (i + 1)) = readN ((digs n).take i) * 10 + (c - 48) := by
        rw [List.take_add_one, hi]
        exact readN_snoc _ _
      rw [e3]
      show [_, some (V.int (((readN ((digs n).take i) : Nat) : Int) * 10 + ((c - 48 : Nat) : Int))), _] = _
      rw [Int.natCast_add, Int.natCast_mul]
      rfl
    · rintro σ H3 ⟨o2, rfl, rfl⟩
      rw [tl, List.take_length, read_digs]
      exact ⟨_, rfl, q⟩
theorem sc_read_row : FnScope ["row", "parts"] ["row"] (defScope s_read_row) := ⟨rfl, rfl, rfl, by decide +kernel, rfl, by decide +kernel, by decide +kernel⟩
theorem ok_read_row (T : Txt K mg t) : FnOk P w K mg base CX0 2 t.f_read_row t.fd_read_row ["row"] sp_rdr := by
  refine T.d_read_row.F.okB sc_read_row (fun vs H Q E h => ?_) (fun cdv A outer s H vs Q E hr h => ?_)
  · obtain ⟨f, rfl, _⟩ := h
    rfl
  obtain ⟨f, rfl, ok, q⟩ := h
  have hu64 := hr.units
  have l3 := ok.few
  have tlen : (txtW f).length ≤ 3000 := by show (rowL f).toArray.size ≤ 3000; rw [List.size_toArray]; exact row_len ok
  have tx : (txtW f).cps.toList = joinL 32 (partsW f) := tl _
  have sp := split_parts (z := txtW f) (c := 32) (parts := partsW f) (fun z => nomatch z) (parts_clean ok) tx
  have one : 1 ≤ (txtW f).length := by show 1 ≤ (rowL f).toArray.size; rw [List.size_toArray]; exact row_some ok
  have kd : (decide ((txtW f).length < (⟨#[32]⟩ : Str).length) || decide (Builtin.Str.strKind (txtW f) < Builtin.Str.strKind ⟨#[32]⟩)) = false := by
    have h1 : Builtin.Str.strKind ⟨#[32]⟩ = 1 := by decide +kernel
    have h2 : 1 ≤ Builtin.Str.strKind (txtW f) := by
      unfold Builtin.Str.strKind
      split
      · decide
      · split <;> decide
    have h3 : (⟨#[32]⟩ : Str).length = 1 := rfl
    rw [h1, h3, decide_eq_false (by omega), decide_eq_false (by omega)]
    rfl
  refine ⟨_, (bpss_cons (bps_set (k := 1) sc_read_row.nd rfl (Or.inl rfl) (bpe_bm PySem.F.plainAttrs_str PySem.F.slot_str_split PySem.F.type_str_split mt_split (bpv 0) (bpa_cons bpe_str (bpa_nil))))
    (bpss_one (bps_ret (bpe_tup (bpa_cons (bpe_ix ix_list (bpv 1) bpe_int (fun _ _ => rfl)) ( bpa_cons (bpe_callTy call_tuple_of rfl T.z_tuple PyProof.Rows.boot_tuple (bpa_cons (bpe_comp rfl (N := ["part"]) (n := 1) (cap := []) (blk_of rfl rfl) (bpi_list (bpe_slice sl_list (bpv 1) (bpo_some bpe_int) bpo_none)) (keep_name (by decide)) (fun _ _ _ _ => (bpg_name (k := 0) (show (["part"] : List Str).Nodup by decide +kernel) rfl (Or.inl rfl))) (fun _ _ _ _ => bpts_nil) (fun _ _ _ _ => (bpe_call (ok_read_number T) (hr.mono (by decide)) rfl T.d_read_number.m T.d_read_number.F.kp T.d_read_number.b .nil pass0 (bpa_cons (bpv 0) (bpa_nil))))) (bpa_nil))) (bpa_nil))))))), ?_⟩
  refine ⟨_, rfl, rfl, txtW f, Str.ofString " ", rfl, rfl, by rw [blank]; exact kd, by rw [blank]; rfl, by omega, fun D hD => ?_⟩
  have ep : (Builtin.Str.partsBetween (txtW f) (Builtin.Str.occurrences (txtW f) (Str.ofString " ") 0 (txtW f).length ((txtW f).length + 1)) (Str.ofString " ").length).map V.str = .str f.word :: f.ns.map fun n => V.str ⟨(digs n.toNat).toArray⟩ := by
    rw [blank, sp]
    unfold partsW
    rw [List.map_cons, List.map_cons, List.map_map, List.map_map, ← str_of (z := f.word) rfl]
    rfl
  rw [ep]
  have kD := same_upd hD (.lst (.str f.word :: f.ns.map fun n => V.str ⟨(digs n.toNat).toArray⟩))
  refine ⟨_, rfl, D, _, _, _, rfl, rfl, .of upd_same, atI_nat (j := 0) rfl, _, rfl, _, rfl, D, _, rfl, .of upd_same, fun S hS => ?_⟩
  rw [cut_one]
  have kS := same_upd hS (.lst (f.ns.map fun n => V.str ⟨(digs n.toNat).toArray⟩))
  refine ⟨S, rfl, ⟨_, .of upd_same⟩, fun C hC => comp_list (K := K) (a := S) (xs := f.ns.map fun n => V.str ⟨(digs n.toNat).toArray⟩)
    (fun j H4 => Same (upd (upd H D (.lst (.str f.word :: f.ns.map fun n => V.str ⟨(digs n.toNat).toArray⟩))) S (.lst (f.ns.map fun n => V.str ⟨(digs n.toNat).toArray⟩))) H4 ∧ H4 C = some (.lst ((f.ns.take j).map V.int)))
    ⟨same_upd hC _, upd_same⟩ (fun j H4 _ z => .of (z.1 _ _ upd_same)) ?_ ?_⟩
  · rintro j y H4 hy ⟨s4, eC⟩
    rw [List.getElem?_map] at hy
    cases hz : f.ns[j]? with
    | none => rw [hz] at hy; cases hy
    | some n =>
      rw [hz] at hy
      cases hy
      have hn := ok.num n (List.mem_of_getElem? hz)
      have n41 : n.toNat < 10 ^ 41 := by
        have h2 := hn.2
        have e : (10 : Int) ^ 41 = ((10 ^ 41 : Nat) : Int) := by decide +kernel
        rw [e] at h2
        omega
      refine ⟨_, rfl, n.toNat, rfl, n41, ?_⟩
      rw [Int.toNat_of_nonneg hn.1]
      refine ⟨_, eC, big (by rw [List.length_map, List.length_take]; omega), s4.write hC _, ?_⟩
      rw [upd_same, List.take_add_one, hz, List.map_append]
      rfl
  rintro H4 ⟨s4, eC⟩
  rw [List.length_map, List.take_length] at eC
  refine ⟨C, _, rfl, .inl ⟨.of eC, fun q1 h1 => ⟨(by show 2 ≤ sizeLine; decide), fun r hr' => ?_⟩⟩⟩
  have k1 := same_upd h1 (.tup (f.ns.map V.int))
  have k2 := same_upd hr' (.tup [.str f.word, .ref q1])
  exact q r q1 _ ((((kD.trans kS).trans s4).trans k1).trans k2) ((((kD.trans kS).trans s4).trans k1).free hr') (((kD.trans kS).trans s4).free h1) upd_same (k2 _ _ upd_same)
theorem sc_show_works : FnScope ["works", "rows"] ["works"] (defScope s_show_works) := ⟨rfl, rfl, rfl, by decide +kernel, rfl, by decide +kernel, by decide +kernel⟩
theorem ok_show_works (T : Txt K mg t) : FnOk P w K mg base CX0 2 t.f_show_works t.fd_show_works ["works"] (sp_shw K) := by
  refine T.d_show_works.F.okB sc_show_works (fun vs H Q E h => ?_) (fun cdv A outer s H vs Q E hr h => ?_)
  · obtain ⟨x, w, rfl, _⟩ := h
    rfl
  obtain ⟨x, w, rfl, hx, wf, q⟩ := h
  have hu64 := hr.units
  obtain ⟨a, ga, oa, gs, os, rfl, ha, hg, ho, rg, ro⟩ := gates_at hx
  have lg : gs.length = w.gates.length := by rw [rg.length, List.length_map]
  have few := wf.few
  have eos := reps_ints ro
  subst eos
  refine ⟨_, (bpss_cons (bps_set (k := 1) sc_show_works.nd rfl (Or.inl rfl) (bpe_lst (bpa_cons (bpe_call (ok_shown_row T) (hr.mono (by decide)) rfl T.d_shown_row.m T.d_shown_row.F.kp T.d_shown_row.b .nil pass0 (bpa_cons bpe_str ( bpa_cons (bpe_lst (bpa_cons (bpe_ix ix_tup (bpv 0) bpe_int (fun _ _ => rfl)) (bpa_nil))) (bpa_nil)))) (bpa_nil))))
    (bpss_cons (bps_expr (bpe_bm PySem.F.plainAttrs_list PySem.F.slot_list_extend PySem.F.type_list_extend mt_extend (bpv 1) (bpa_cons (bpe_comp rfl (N := ["kind", "legs"]) (n := 2) (cap := []) (blk_of rfl rfl) (bpi_list (bpe_ix ix_tup (bpv 0) bpe_int (fun _ _ => rfl))) (keep_pair (by decide) (by decide)) (fun _ _ _ _ => (bpg_tupK (K := K) (n := 2) rfl (bpgs_cons (bpg_name (k := 0) (show (["kind", "legs"] : List Str).Nodup by decide +kernel) rfl (Or.inl rfl)) (bpgs_cons (bpg_name (k := 1) (show (["kind", "legs"] : List Str).Nodup by decide +kernel) rfl (Or.inl rfl)) bpgs_nil)))) (fun _ _ _ _ => bpts_nil) (fun _ _ _ _ => (bpe_call (ok_shown_row T) (hr.mono (by decide)) rfl T.d_shown_row.m T.d_shown_row.F.kp T.d_shown_row.b .nil pass0 (bpa_cons (bpv 0) ( bpa_cons (bpv 1) (bpa_nil)))))) (bpa_nil))))
    (bpss_cons (bps_expr (bpe_bm PySem.F.plainAttrs_list PySem.F.slot_list_append PySem.F.type_list_append mt_append (bpv 1) (bpa_cons (bpe_call (ok_shown_row T) (hr.mono (by decide)) rfl T.d_shown_row.m T.d_shown_row.F.kp T.d_shown_row.b .nil pass0 (bpa_cons bpe_str ( bpa_cons (bpe_ix ix_tup (bpv 0) bpe_int (fun _ _ => rfl)) (bpa_nil)))) (bpa_nil))))
    (bpss_one (bps_ret (bpe_bm PySem.F.plainAttrs_str PySem.F.slot_str_join PySem.F.type_str_join mt_join bpe_str (bpa_cons (bpv 1) (bpa_nil)))))))), ?_⟩
  refine ⟨_, rfl, a, _, _, _, rfl, rfl, ha, rfl, (by show 1 ≤ sizeLine; decide), fun L1 h1 => ?_⟩
  have k1 := same_upd h1 (.lst [.int w.ins])
  refine ⟨⟨"in", [w.ins]⟩, L1, rfl, in_ok ⟨wf.i1, wf.i6⟩, .inl (.of upd_same), fun H2 s2 => ⟨(by show 1 ≤ sizeLine; decide), fun R hR => ?_⟩⟩
  have kR := same_upd hR (.lst [.str (txtW ⟨"in", [w.ins]⟩)])
  have s12 := k1.trans s2
  have sR := s12.trans kR
  have nR : H R = none := s12.free hR
  have eR : (upd H2 R (.lst [.str (txtW ⟨"in", [w.ins]⟩)])) R = some (.lst [.str (txtW ⟨"in", [w.ins]⟩)]) := upd_same
  generalize upd H2 R (.lst [.str (txtW ⟨"in", [w.ins]⟩)]) = H3 at sR eR
  refine ⟨_, rfl, .inl ⟨rfl, _, .of eR⟩, _, rfl, a, _, _, _, rfl, rfl, sR.seqT ha, rfl, ga, rfl, ⟨_, sR.seq hg⟩, fun D hD => comp_list (K := K) (a := ga) (xs := gs)
    (fun j H4 => Same H3 H4 ∧ H4 D = some (.lst (((gatesR (w.gates.take j)).map txtW).map V.str))) ⟨same_upd hD _, upd_same⟩ (fun j H4 _ z => (sR.trans z.1).seq hg) ?_ ?_⟩
  · rintro j y H4 hy ⟨s4, eD⟩
    obtain ⟨dd, hdd, ry⟩ := rg.get hy
    rw [List.getElem?_map] at hdd
    cases hz : w.gates[j]? with
    | none => rw [hz] at hdd; cases hdd
    | some g =>
      rw [hz] at hdd
      cases hdd
      obtain ⟨b, la, rfl, hb, hla⟩ := gate_at ry
      have s04 := sR.trans s4
      refine ⟨b, _, rfl, s04.seqT hb, rfl, _, _, rfl, _, _, rfl, rfl, ?_⟩
      refine ⟨_, rfl, _, rfl, ⟨g.1, g.2⟩, la, rfl, gate_ok wf hz, .inr (s04.seqT hla), fun H5 s5 => ?_⟩
      have lj : j < w.gates.length := (List.getElem?_eq_some_iff.mp hz).1
      refine ⟨_, s5 _ _ eD, big (by unfold gatesR; rw [List.length_map, List.length_map, List.length_map, List.length_take]; omega), (s4.trans s5).write hD _, ?_⟩
      unfold gatesR
      rw [upd_same, List.take_add_one, hz, List.map_append, List.map_append, List.map_append]
      rfl
  rintro H4 ⟨s4, eD⟩
  rw [lg, List.take_length] at eD
  have eR4 := s4 _ _ eR
  have lR : ((gatesR w.gates).map txtW).length ≤ 20 := by unfold gatesR; rw [List.length_map, List.length_map]; exact few
  refine ⟨R, D, _, _, rfl, rfl, eR4, eD, bigE (by rw [List.length_map]; show 1 + _ ≤ _; omega), ?_⟩
  have s0R : Same H (upd H4 R (.lst ([.str (txtW ⟨"in", [w.ins]⟩)] ++ ((gatesR w.gates).map txtW).map V.str))) := (sR.trans s4).write nR _
  have eR5 : (upd H4 R (.lst ([.str (txtW ⟨"in", [w.ins]⟩)] ++ ((gatesR w.gates).map txtW).map V.str))) R = some (.lst ([.str (txtW ⟨"in", [w.ins]⟩)] ++ ((gatesR w.gates).map txtW).map V.str)) := upd_same
  generalize upd H4 R (.lst ([.str (txtW ⟨"in", [w.ins]⟩)] ++ ((gatesR w.gates).map txtW).map V.str)) = H5 at s0R eR5
  refine ⟨_, rfl, .inl ⟨rfl, _, .of eR5⟩, _, rfl, a, _, _, _, rfl, rfl, s0R.seqT ha, rfl, ⟨"out", w.outs⟩, oa, rfl, out_ok wf, .inl (s0R.seq ho), fun H6 s6 => ?_⟩
  have eR6 := s6 _ _ eR5
  refine ⟨R, _, _, rfl, rfl, eR6, big (by rw [List.length_append, List.length_map]; show 1 + _ ≤ _; omega), ?_⟩
  have ez : [V.str (txtW ⟨"in", [w.ins]⟩)] ++ ((gatesR w.gates).map txtW).map V.str ++ [.str (txtW ⟨"out", w.outs⟩)] = ((rowsW w).map txtW).map V.str := by
    unfold rowsW
    rw [List.map_cons, List.map_cons, List.map_append, List.map_append]
    rfl
  refine ⟨rfl, _, rfl, _, R, (rowsW w).map txtW, rfl, rfl, by rw [upd_same, ez], by unfold rowsW; rw [List.length_map, List.length_cons]; omega, text_sum wf, ?_⟩
  rw [join_text]
  exact q _ ((s0R.trans s6).write nR _)
theorem sc_read_works : FnScope ["text", "rows", "first", "last", "gates"] ["text"] (defScope s_read_works) := ⟨rfl, rfl, rfl, by decide +kernel, rfl, by decide +kernel, by decide +kernel⟩
theorem ok_read_works (T : Txt K mg t) : FnOk P w K mg base CX0 4 t.f_read_works t.fd_read_works ["text"] (sp_rdw K) := by
  refine T.d_read_works.F.okB sc_read_works (fun vs H Q E h => ?_) (fun cdv A outer s H vs Q E hr h => ?_)
  · obtain ⟨w, rfl, _⟩ := h
    rfl
  obtain ⟨w, rfl, wf, q⟩ := h
  have hu64 := hr.units
  have few := wf.few
  have many := rows_many wf
  have tlen := text_len wf
  have one : 1 ≤ (textW w).length := by
    show 1 ≤ (joinL 10 ((rowsW w).map rowL)).toArray.size
    rw [List.size_toArray]
    show 1 ≤ (joinL 10 (rowL ⟨"in", [w.ins]⟩ :: (gatesR w.gates ++ [(⟨"out", w.outs⟩ : Rwt)]).map rowL)).length
    have h1 := row_some (in_ok ⟨wf.i1, wf.i6⟩ : (⟨"in", [w.ins]⟩ : Rwt).Ok)
    cases (gatesR w.gates ++ [(⟨"out", w.outs⟩ : Rwt)]).map rowL with
    | nil => exact h1
    | cons p r =>
      show 1 ≤ (rowL ⟨"in", [w.ins]⟩ ++ _).length
      rw [List.length_append]
      omega
  have kd : (decide ((textW w).length < (⟨#[10]⟩ : Str).length) || decide (Builtin.Str.strKind (textW w) < Builtin.Str.strKind ⟨#[10]⟩)) = false := by
    have h1 : Builtin.Str.strKind ⟨#[10]⟩ = 1 := by decide +kernel
    have h2 : 1 ≤ Builtin.Str.strKind (textW w) := by
      unfold Builtin.Str.strKind
      split
      · decide
      · split <;> decide
    have h3 : (⟨#[10]⟩ : Str).length = 1 := rfl
    rw [h1, h3, decide_eq_false (by omega), decide_eq_false (by omega)]
    rfl
  refine ⟨_, (bpss_cons (bps_setC (k := 1) rfl (N := ["row"]) (n := 1) (cap := []) (blk_of rfl rfl) sc_read_works.nd rfl rfl (bpi_list (bpe_bm PySem.F.plainAttrs_str PySem.F.slot_str_split PySem.F.type_str_split mt_split (bpv 0) (bpa_cons bpe_str (bpa_nil)))) (keep_name (by decide)) (fun _ _ _ _ => (bpg_name (k := 0) (show (["row"] : List Str).Nodup by decide +kernel) rfl (Or.inl rfl))) (fun _ _ _ _ => bpts_nil) (fun _ _ _ _ => (bpe_call (ok_read_row T) (hr.mono (by decide)) rfl T.d_read_row.m T.d_read_row.F.kp T.d_read_row.b .nil pass0 (bpa_cons (bpv 0) (bpa_nil)))) rfl)
    (bpss_cons (bps_set (k := 2) sc_read_works.nd rfl (Or.inl rfl) (bpe_ix ix_list (bpv 1) bpe_int (fun _ _ => rfl)))
    (bpss_cons (bps_set (k := 3) sc_read_works.nd rfl (Or.inl rfl) (bpe_ix ix_list (bpv 1) (bpe_un un_neg bpe_int) (fun _ _ => rfl)))
    (bpss_cons (bps_if (bPW_pt (bpw_or (bpt_cmpR op_ne (bpe_ix ix_tup (bpv 2) bpe_int (fun _ _ => rfl)) bpe_str (nomark _)) (bpw_or1 (bpt_cmpR op_ne (bpe_callB call_len_seq rfl T.z_len PySem.boot_len (bpa_cons (bpe_ix ix_tup (bpv 2) bpe_int (fun _ _ => rfl)) (bpa_nil))) bpe_int (nomark _))))) (bpss_one bps_never) bpss_nil)
    (bpss_cons (bps_if (bpt_cmpR op_ne (bpe_ix ix_tup (bpv 3) bpe_int (fun _ _ => rfl)) bpe_str (nomark _)) (bpss_one bps_never) bpss_nil)
    (bpss_cons (bps_set (k := 4) sc_read_works.nd rfl (Or.inl rfl) (bpe_slice sl_list (bpv 1) (bpo_some bpe_int) (bpo_some (bpe_un un_neg bpe_int))))
    (bpss_cons (bps_if (bpt_not (bpt_val (bpe_callB (call_allL rfl) rfl T.z_all PyProof.Rows.boot_all (bpa_cons (bpe_comp rfl (N := ["kind", "legs"]) (n := 2) (cap := []) (blk_of rfl rfl) (bpi_list (bpv 4)) (keep_pair (by decide) (by decide)) (fun _ _ _ _ => (bpg_tupK (K := K) (n := 2) rfl (bpgs_cons (bpg_name (k := 0) (show (["kind", "legs"] : List Str).Nodup by decide +kernel) rfl (Or.inl rfl)) (bpgs_cons (bpg_name (k := 1) (show (["kind", "legs"] : List Str).Nodup by decide +kernel) rfl (Or.inl rfl)) bpgs_nil)))) (fun _ _ _ _ => bpts_nil) (fun _ _ _ _ => (bpe_call (ok_is_kind T) (hr.mono (by decide)) rfl T.d_is_kind.m T.d_is_kind.F.kp T.d_is_kind.b .nil pass0 (bpa_cons (bpv 0) (bpa_nil))))) (bpa_nil))))) (bpss_one bps_never) bpss_nil)
    (bpss_one (bps_ret (bpe_call (ok_works_of T) (hr.mono (by decide)) rfl T.d_works_of.m T.d_works_of.F.kp T.d_works_of.b .nil pass0 (bpa_cons (bpe_ix ix_tup (bpe_ix ix_tup (bpv 2) bpe_int (fun _ _ => rfl)) bpe_int (fun _ _ => rfl)) ( bpa_cons (bpv 4) ( bpa_cons (bpe_callTy call_list_of rfl T.z_list PyProof.Rows.boot_list (bpa_cons (bpe_ix ix_tup (bpv 3) bpe_int (fun _ _ => rfl)) (bpa_nil))) (bpa_nil)))))))))))))), ?_⟩
  refine ⟨_, rfl, rfl, textW w, Str.ofString "\n", rfl, rfl, by rw [feed]; exact kd, by rw [feed]; rfl, tlen, fun S hS => ?_⟩
  have ep : (Builtin.Str.partsBetween (textW w) (Builtin.Str.occurrences (textW w) (Str.ofString "\n") 0 (textW w).length ((textW w).length + 1)) (Str.ofString "\n").length).map V.str = ((rowsW w).map txtW).map V.str := by
    rw [feed, text_split wf]
  rw [ep]
  have kS := same_upd hS (.lst (((rowsW w).map txtW).map V.str))
  have eS : (upd H S (.lst (((rowsW w).map txtW).map V.str))) S = some (.lst (((rowsW w).map txtW).map V.str)) := upd_same
  generalize upd H S (.lst (((rowsW w).map txtW).map V.str)) = H1 at kS eS
  refine ⟨S, rfl, ⟨_, .of eS⟩, fun D hD => comp_list (K := K) (a := S) (xs := ((rowsW w).map txtW).map V.str)
    (fun j H4 => ∃ (us : List V) (G : Hp), Same H1 G ∧ Off [D] G H4 ∧ H4 D = some (.lst us) ∧ Reps K G us (((rowsW w).take j).map rwD))
    ⟨[], H1, Same.refl _, Off.start hD _, upd_same, .nil⟩ (fun j H4 _ z => by obtain ⟨_, _, sG, oG, _⟩ := z; exact .of ((sG.trans oG.same) _ _ eS)) ?_ ?_⟩
  · rintro j y H4 hy ⟨us, G, sG, oG, eD, rus⟩
    rw [List.getElem?_map, List.getElem?_map] at hy
    cases hz : (rowsW w)[j]? with
    | none => rw [hz] at hy; cases hy
    | some f =>
      rw [hz] at hy
      cases hy
      have lj := (List.getElem?_eq_some_iff.mp hz).1
      have lu : us.length = ((rowsW w).take j).length := by rw [rus.length, List.length_map]
      rw [List.length_take] at lu
      refine ⟨_, rfl, f, rfl, rows_ok wf f (List.mem_of_getElem? hz), fun r1 q1 H5 s5 nr nq er eq => ?_⟩
      refine ⟨us, s5 _ _ eD, big (by omega), us ++ [.ref r1], newsOf G H4 H5, sG.trans (newsOf_same oG.same), (newsOf_off oG s5).write (.head _) _, upd_same, ?_⟩
      have et : (rowsW w).take (j + 1) = (rowsW w).take j ++ [f] := by rw [List.take_add_one, hz]; rfl
      rw [et, List.map_append]
      exact (rus.mono (newsOf_same oG.same)).snoc (.tup (.of (by rw [newsOf_new nr]; exact er)) (.cons (.str _) (.cons (.tup (.of (by rw [newsOf_new nq]; exact eq)) (Reps.ints _)) .nil)))
  rintro H4 ⟨us, G, sG, oG, eD, rus⟩
  rw [List.length_map, List.length_map, List.take_length, rows_D] at rus
  have s04 := (kS.trans sG).trans oG.same
  have ru := rus.mono oG.same
  obtain ⟨v0, vg, vl, rfl, r0, rgs, rl⟩ : ∃ v0 vg vl, us = v0 :: (vg ++ [vl]) ∧ Rep K H4 v0 (rwD ⟨"in", [w.ins]⟩) ∧ Reps K H4 vg (w.gates.map gateD) ∧ Rep K H4 vl (rwD ⟨"out", w.outs⟩) := by
    cases ru with
    | cons r0 rt =>
      obtain ⟨vg, ys, rfl, h1, h2⟩ := reps_split rt
      cases h2 with
      | cons rl rn =>
        cases rn
        exact ⟨_, vg, _, rfl, r0, h1, rl⟩
  obtain ⟨a0, l0, rfl, h0, hl0⟩ := rw_at r0
  obtain ⟨al, ll, rfl, hal, hll⟩ := rw_at rl
  have lvg : vg.length = w.gates.length := by rw [rgs.length, List.length_map]
  refine ⟨_, rfl, D, _, _, _, rfl, rfl, .of eD, atI_nat (j := 0) rfl, ?_⟩
  refine ⟨_, rfl, _, rfl, D, _, _, _, rfl, rfl, .of eD, at_last (.ref a0 :: vg) (.ref al), ?_⟩
  refine ⟨_, rfl, a0, _, _, _, rfl, rfl, h0, rfl, rfl, _, rfl, ite2 (fun c => ?_) (fun c => ?_)⟩
  · rw [decide_eq_true rfl] at c
    cases c
  refine ⟨_, rfl, a0, _, _, _, rfl, rfl, h0, rfl, l0, _, rfl, .inr hl0, rfl, _, rfl, ite2 (fun c => ?_) (fun c => ?_)⟩
  · rw [decide_eq_true (show V.int ((([w.ins].map V.int).length : Nat) : Int) = V.int 1 from rfl)] at c
    cases c
  refine ⟨_, rfl, al, _, _, _, rfl, rfl, hal, rfl, rfl, _, rfl, ite2 (fun c => ?_) (fun c => ?_)⟩
  · rw [decide_eq_true rfl] at c
    cases c
  refine ⟨_, rfl, _, rfl, _, rfl, _, rfl, D, _, rfl, .of eD, fun Gd hG => ?_⟩
  rw [show (-(1 : Int)) = -1 from rfl, cut_inner]
  have kG := same_upd hG (.lst vg)
  have eG : (upd H4 Gd (.lst vg)) Gd = some (.lst vg) := upd_same
  have s05 := s04.trans kG
  have rg5 := rgs.mono kG
  have h05 := kG.seqT h0
  have hl05 := kG.seqT hl0
  have hal5 := kG.seqT hal
  have hll5 := kG.seqT hll
  generalize upd H4 Gd (.lst vg) = H5 at kG eG s05 rg5 h05 hl05 hal5 hll5
  refine ⟨_, rfl, Gd, rfl, ⟨_, .of eG⟩, fun D2 hD2 => comp_list (K := K) (a := Gd) (xs := vg) (fun j H6 => Same H5 H6 ∧ H6 D2 = some (.lst ((List.replicate j true).map V.bl))) ⟨same_upd hD2 _, upd_same⟩ (fun j H6 _ z => .of (z.1 _ _ eG)) ?_ ?_⟩
  · rintro j y H6 hy ⟨s6, eD2⟩
    obtain ⟨dd, hdd, ry⟩ := rg5.get hy
    rw [List.getElem?_map] at hdd
    cases hz : w.gates[j]? with
    | none => rw [hz] at hdd; cases hdd
    | some g =>
      rw [hz] at hdd
      cases hdd
      obtain ⟨b, la, rfl, hb, hla⟩ := gate_at ry
      obtain ⟨lo, hi, _, ik, _, _⟩ := bounds_of (wf.legs j g hz).1
      have lj : j < w.gates.length := (List.getElem?_eq_some_iff.mp hz).1
      refine ⟨b, _, rfl, s6.seqT hb, rfl, _, _, rfl, _, _, rfl, rfl, ?_⟩
      refine ⟨_, rfl, g.1, rfl, ?_⟩
      rw [ik]
      refine ⟨_, eD2, big (by rw [List.length_map, List.length_replicate]; omega), s6.write hD2 _, ?_⟩
      rw [upd_same, List.replicate_succ', List.map_append]
      rfl
  rintro H6 ⟨s6, eD2⟩
  have all1 : (List.replicate vg.length true).all id = true := List.all_eq_true.mpr fun b hb => (List.mem_replicate.mp hb).2
  refine ⟨D2, _, rfl, .of eD2, _, rfl, ?_⟩
  rw [all1]
  refine iteF ?_
  have s06 := s05.trans s6
  refine ⟨_, rfl, a0, _, _, _, rfl, rfl, s6.seqT h05, rfl, l0, _, _, _, rfl, rfl, s6.seqT hl05, rfl, _, rfl, _, rfl, al, _, _, _, rfl, rfl, s6.seqT hal5, rfl, ll, _, rfl, .inr (s6.seqT hll5), fun Lo hLo => ?_⟩
  have kLo := same_upd hLo (.lst (w.outs.map V.int))
  refine ⟨w, Gd, Lo, vg, w.outs.map V.int, rfl, .of ((s6.trans kLo) _ _ eG), .of upd_same, rg5.mono (s6.trans kLo), Reps.ints _, wf, fun r g o H8 s8 nr ng no go gr or' eg eo er => ?_⟩
  have s07 := s06.trans kLo
  exact q r g o vg (w.outs.map V.int) H8 (s07.trans s8) (s07.free nr) (s07.free ng) (s07.free no) go gr or' eg eo er ((rg5.mono (s6.trans kLo)).mono s8) (Reps.ints _)
theorem sc_show_fault : FnScope ["fault"] ["fault"] (defScope s_show_fault) := ⟨rfl, rfl, rfl, by decide +kernel, rfl, by decide +kernel, by decide +kernel⟩
theorem ok_show_fault (T : Txt K mg t) : FnOk P w K mg base CX0 2 t.f_show_fault t.fd_show_fault ["fault"] (sp_shf K) := by
  refine T.d_show_fault.F.okB sc_show_fault (fun vs H Q E h => ?_) (fun cdv A outer s H vs Q E hr h => ?_)
  · obtain ⟨f, p, rfl, _⟩ := h
    rfl
  obtain ⟨f, p, rfl, ok, hp, q⟩ := h
  have hu64 := hr.units
  refine ⟨_, (bpss_one (bps_ret (bpe_call (ok_shown_row T) (hr.mono (by decide)) rfl T.d_shown_row.m T.d_shown_row.F.kp T.d_shown_row.b .nil pass0 (bpa_cons (bpe_ix ix_tup (bpv 0) bpe_int (fun _ _ => rfl)) ( bpa_cons (bpe_slice sl_tup (bpv 0) (bpo_some bpe_int) bpo_none) (bpa_nil)))))), ?_⟩
  refine ⟨_, rfl, p, _, _, _, rfl, rfl, hp, atI_nat (j := 0) rfl, _, rfl, _, rfl, p, _, rfl, hp, part_one _ _, fun T1 h1 => ?_⟩
  rw [cut_one]
  have k1 := same_upd h1 (.tup (f.ns.map V.int))
  exact ⟨f, T1, rfl, ok, .inr (.of upd_same), fun H' s' => q H' (k1.trans s')⟩
theorem sc_read_fault : FnScope ["text", "fault", "word", "numbers"] ["text"] (defScope s_read_fault) := ⟨rfl, rfl, rfl, by decide +kernel, rfl, by decide +kernel, by decide +kernel⟩
theorem ok_read_fault (T : Txt K mg t) : FnOk P w K mg base CX0 3 t.f_read_fault t.fd_read_fault ["text"] sp_rdf := by
  refine T.d_read_fault.F.okB sc_read_fault (fun vs H Q E h => ?_) (fun cdv A outer s H vs Q E hr h => ?_)
  · obtain ⟨f, rfl, _⟩ := h
    rfl
  obtain ⟨f, rfl, ok, q⟩ := h
  have hu64 := hr.units
  have l23 : 2 ≤ f.ns.length ∧ f.ns.length ≤ 3 := by rcases ok.form with ⟨_, e⟩ | ⟨_, e⟩ <;> omega
  obtain ⟨l2, l3⟩ := l23
  have len : (f.ns.map V.int).length = f.ns.length := List.length_map _
  refine ⟨_, (bpss_cons (bps_set (k := 1) sc_read_fault.nd rfl (Or.inl rfl) (bpe_call (ok_read_row T) (hr.mono (by decide)) rfl T.d_read_row.m T.d_read_row.F.kp T.d_read_row.b .nil pass0 (bpa_cons (bpv 0) (bpa_nil))))
    (bpss_cons (bps_set (k := 2) sc_read_fault.nd rfl (Or.inl rfl) (bpe_ix ix_tup (bpv 1) bpe_int (fun _ _ => rfl)))
    (bpss_cons (bps_set (k := 3) sc_read_fault.nd rfl (Or.inl rfl) (bpe_ix ix_tup (bpv 1) bpe_int (fun _ _ => rfl)))
    (bpss_cons (bps_if (bPW_pt (bpw_and (bpt_not (bPW_pt (bpw_and (bpt_cmpR op_eq (bpv 2) bpe_str (nomark _)) (bpw_and1 (bpt_cmpR op_eq (bpe_callB call_len_seq rfl T.z_len PySem.boot_len (bpa_cons (bpv 3) (bpa_nil))) bpe_int (nomark _)))))) (bpw_and1 (bpt_not (bPW_pt (bpw_and (bpt_cmpR op_eq (bpv 2) bpe_str (nomark _)) (bpw_and1 (bpt_cmpR op_eq (bpe_callB call_len_seq rfl T.z_len PySem.boot_len (bpa_cons (bpv 3) (bpa_nil))) bpe_int (nomark _))))))))) (bpss_one bps_never) bpss_nil)
    (bpss_cons (bps_if (bpt_cmpR op_notIn_seq (bpe_ix ix_tup (bpv 3) (bpe_un un_neg bpe_int) (fun _ _ => rfl)) (bpe_tup (bpa_cons bpe_int ( bpa_cons bpe_int (bpa_nil)))) rfl) (bpss_one bps_never) bpss_nil)
    (bpss_one (bps_ret (bpe_op op_catT (bpe_tup (bpa_cons (bpv 2) (bpa_nil))) (bpv 3))))))))), ?_⟩
  refine ⟨_, rfl, f, rfl, ok.ok, fun r q1 H1 s1 _ _ er eq => ?_⟩
  refine ⟨_, rfl, r, _, _, _, rfl, rfl, .of er, rfl, _, rfl, r, _, _, _, rfl, rfl, .of er, rfl, ?_⟩
  refine' joinX (α := Unit) (C := fun _ Hx => H1 = Hx) (st := fun _ => [some (.str (txtW f)), some (.ref r), some (.str f.word), some (.ref q1)]) (fun rest => _) _
  rotate_left
  · rcases ok.form with ⟨ew, el⟩ | ⟨ew, el⟩
    · refine ⟨_, rfl, rfl, _, rfl, ite2 (fun c => ?_) (fun c => absurd (decide_eq_true (by rw [ew])) c)⟩
      refine ⟨_, rfl, q1, _, rfl, .inr (.of eq), rfl, _, rfl, ite2 (fun c2 => ?_) (fun c2 => iteF (rest () _ rfl))⟩
      rw [len, el, decide_eq_true (show V.int ((2 : Nat) : Int) = V.int 2 from rfl)] at c2
      cases c2
    · refine ⟨_, rfl, rfl, _, rfl, ite2 (fun c => ?_) (fun c => iteT ?_)⟩
      · exact absurd (V.str.inj (of_decide_eq_true c)) (by rw [ew]; decide +kernel)
      refine ⟨_, rfl, rfl, _, rfl, ite2 (fun c => ?_) (fun c => absurd (decide_eq_true (by rw [ew])) c)⟩
      refine ⟨_, rfl, q1, _, rfl, .inr (.of eq), rfl, _, rfl, ite2 (fun c2 => ?_) (fun c2 => rest () _ rfl)⟩
      rw [len, el, decide_eq_true (show V.int ((3 : Nat) : Int) = V.int 3 from rfl)] at c2
      cases c2
  rintro _ _ rfl
  obtain ⟨b, hb, b01⟩ := ok.last
  have at1 : atI (f.ns.map V.int) (-1) = some (.int b) := by
    have hne : f.ns ≠ [] := fun z => by rw [z] at l2; exact absurd l2 (by decide)
    have e1 : f.ns = f.ns.dropLast ++ [b] := by
      have := List.dropLast_concat_getLast hne
      rw [List.getLast?_eq_some_getLast hne] at hb
      rw [← Option.some.inj hb]
      exact this.symm
    rw [e1, List.map_append]
    exact at_last _ _
  refine ⟨_, rfl, _, rfl, q1, _, _, _, rfl, rfl, .of eq, at1, (by show 2 ≤ sizeLine; decide), fun T2 h2 => ?_⟩
  have k2 := same_upd h2 (.tup [.int 0, .int 1])
  refine ⟨T2, _, rfl, .inr (.of upd_same), rfl, rfl, _, rfl, ite2 (fun c => ?_) (fun c => ?_)⟩
  · rcases b01 with rfl | rfl <;> exact absurd c (by decide)
  refine ⟨_, rfl, (by show 1 ≤ sizeLine; decide), fun T3 h3 => ?_⟩
  have k3 := same_upd h3 (.tup [.str f.word])
  refine ⟨_, rfl, T3, q1, _, _, rfl, rfl, .of upd_same, .of ((k2.trans k3) _ _ eq), (fun z => nomatch z), bigE (by rw [len]; show 1 + _ ≤ _; omega), fun z => ?_, fun _ p hp => ?_⟩
  · rw [z] at len
    rw [← len] at l2
    exact absurd l2 (by decide)
  · exact q p _ (((s1.trans k2).trans k3).upd hp _) upd_same
theorem sc_law_others : FnScope ["deck", "works", "wires", "legs", "more", "moved", "found", "inputs", "gates", "outputs", "kind", "some"] ["deck", "works"] (defScope s_law_others) := ⟨rfl, rfl, rfl, by decide +kernel, rfl, by decide +kernel, by decide +kernel⟩
theorem ok_law_others (T : Txt K mg t) : FnOk P w K mg base CX0 2 t.f_law_others t.fd_law_others ["deck", "works"] (sp_oth K) := by
  refine T.d_law_others.F.okB sc_law_others (fun vs H Q E h => ?_) (fun cdv A outer s H vs Q E hr h => ?_)
  · obtain ⟨pd, n, x, w, G, rfl, _⟩ := h
    rfl
  obtain ⟨pd, n, x, w, G, rfl, hpd, off, hx, wf, q⟩ := h
  have hu64 := hr.units
  obtain ⟨a, ga, oa, gs, os, rfl, ha, hg, ho, rg, ro⟩ := gates_at hx
  have lg : gs.length = w.gates.length := by rw [rg.length, List.length_map]
  have few := wf.few
  have o3 := wf.o3
  have i1 := wf.i1
  have i6 := wf.i6
  have eos := reps_ints ro
  subst eos
  have wp : (0 : Int) < w.ins + (gs.length : Int) := by omega
  have wl : w.ins + (gs.length : Int) < 1073741824 := by omega
  refine ⟨_, (bpss_cons (bps_asg (bpv 1) (bpg_tup rfl (bpgs_cons (bpg_name (k := 7) sc_law_others.nd rfl (Or.inl rfl)) (bpgs_cons (bpg_name (k := 8) sc_law_others.nd rfl (Or.inl rfl)) (bpgs_cons (bpg_name (k := 9) sc_law_others.nd rfl (Or.inl rfl)) bpgs_nil)))))
    (bpss_cons (bps_set (k := 2) sc_law_others.nd rfl (Or.inl rfl) (bpe_op op_add (bpv 7) (bpe_callB call_len_seq rfl T.z_len PySem.boot_len (bpa_cons (bpv 8) (bpa_nil)))))
    (bpss_cons (bps_set (k := 3) sc_law_others.nd rfl (Or.inl rfl) (bpe_tup (bpa_cons (bpe_call (ok_law_take T) (hr.mono (by decide)) rfl T.d_law_take.m T.d_law_take.F.kp T.d_law_take.b .nil pass0 (bpa_cons (bpv 0) ( bpa_cons (bpv 2) (bpa_nil)))) ( bpa_cons (bpe_call (ok_law_take T) (hr.mono (by decide)) rfl T.d_law_take.m T.d_law_take.F.kp T.d_law_take.b .nil pass0 (bpa_cons (bpv 0) ( bpa_cons (bpv 2) (bpa_nil)))) (bpa_nil)))))
    (bpss_cons (bps_set (k := 4) sc_law_others.nd rfl (Or.inl rfl) (bpe_tup (bpa_cons (bpv 7) ( bpa_cons (bpe_op op_catS (bpv 8) (bpe_lst (bpa_cons (bpe_tup (bpa_cons (bpe_ix ix_list (bpe_lst (bpa_cons bpe_str ( bpa_cons bpe_str ( bpa_cons bpe_str (bpa_nil))))) (bpe_call (ok_law_take T) (hr.mono (by decide)) rfl T.d_law_take.m T.d_law_take.F.kp T.d_law_take.b .nil pass0 (bpa_cons (bpv 0) ( bpa_cons bpe_int (bpa_nil)))) (fun _ _ => rfl)) ( bpa_cons (bpv 3) (bpa_nil)))) (bpa_nil)))) ( bpa_cons (bpe_op op_catS (bpv 9) (bpe_lst (bpa_cons (bpv 2) (bpa_nil)))) (bpa_nil))))))
    (bpss_cons (bps_set (k := 5) sc_law_others.nd rfl (Or.inl rfl) (bpe_lst bpa_nil))
    (bpss_cons (bps_for PassesOwn.never rfl (bpi_list (bpv 8)) (bpg_tup rfl (bpgs_cons (bpg_name (k := 10) sc_law_others.nd rfl (Or.inl rfl)) (bpgs_cons (bpg_name (k := 11) sc_law_others.nd rfl (Or.inl rfl)) bpgs_nil))) (bpss_one (bps_expr (bpe_bm PySem.F.plainAttrs_list PySem.F.slot_list_append PySem.F.type_list_append mt_append (bpv 5) (bpa_cons (bpe_tup (bpa_cons (bpv 10) ( bpa_cons (bpe_callTy call_tuple_of rfl T.z_tuple PyProof.Rows.boot_tuple (bpa_cons (bpe_comp rfl (N := ["leg"]) (n := 1) (cap := []) (blk_of rfl rfl) (bpi_tup (bpv 11)) (keep_name (by decide)) (fun _ _ _ _ => (bpg_name (k := 0) (show (["leg"] : List Str).Nodup by decide +kernel) rfl (Or.inl rfl))) (fun _ _ _ _ => bpts_nil) (fun _ _ _ _ => (bpe_op op_add (bpv 0) bpe_int))) (bpa_nil))) (bpa_nil)))) (bpa_nil))))))
    (bpss_cons (bps_set (k := 6) sc_law_others.nd rfl (Or.inl rfl) (bpe_lst (bpa_cons (bpv 4) ( bpa_cons (bpe_tup (bpa_cons (bpv 7) ( bpa_cons (bpv 8) ( bpa_cons (bpe_rev (bpv 9) (bpe_un un_neg bpe_int)) (bpa_nil))))) (bpa_nil)))))
    (bpss_cons (bps_if (bpt_cmpR op_lt (bpv 7) bpe_int (nomark _)) (bpss_one (bps_expr (bpe_bm PySem.F.plainAttrs_list PySem.F.slot_list_append PySem.F.type_list_append mt_append (bpv 6) (bpa_cons (bpe_tup (bpa_cons (bpe_op op_add (bpv 7) bpe_int) ( bpa_cons (bpv 5) ( bpa_cons (bpe_comp rfl (N := ["output"]) (n := 1) (cap := []) (blk_of rfl rfl) (bpi_list (bpv 9)) (keep_name (by decide)) (fun _ _ _ _ => (bpg_name (k := 0) (show (["output"] : List Str).Nodup by decide +kernel) rfl (Or.inl rfl))) (fun _ _ _ _ => bpts_nil) (fun _ _ _ _ => (bpe_op op_add (bpv 0) bpe_int))) (bpa_nil))))) (bpa_nil))))) bpss_nil)
    (bpss_one (bps_ret (bpv 6))))))))))), ?_⟩
  refine ⟨_, rfl, a, _, rfl, off.same.seqT ha, rfl, _, _, rfl, _, _, rfl, _, _, rfl, rfl, ?_⟩
  refine ⟨_, rfl, _, rfl, ga, _, rfl, .inl (off.same.seq hg), _, _, rfl, rfl, ?_⟩
  refine ⟨_, rfl, _, rfl, pd, n, _, rfl, hpd, wp, wl, fun r1 n1 a1 b1 => ⟨_, rfl, _, rfl, pd, n1, _, rfl, upd_same, wp, wl, fun r2 n2 a2 b2 => ⟨(by show 2 ≤ sizeLine; decide), fun TL hTL => ?_⟩⟩⟩
  have off2 : Off [pd] G (upd (upd H pd (.lst [.int n1])) pd (.lst [.int n2])) := (off.write (.head _) _).write (.head _) _
  have epd2 : (upd (upd H pd (.lst [.int n1])) pd (.lst [.int n2])) pd = some (.lst [.int n2]) := upd_same
  generalize upd (upd H pd (.lst [.int n1])) pd (.lst [.int n2]) = H2 at off2 epd2 hTL
  have off3 := off2.lay hTL (.tup [.int r1, .int r2])
  have sG3 := off2.add hTL (.tup [.int r1, .int r2])
  have eTL : (upd G TL (.tup [.int r1, .int r2])) TL = some (.tup [.int r1, .int r2]) := upd_same
  have epd3 : (upd H2 TL (.tup [.int r1, .int r2])) pd = some (.lst [.int n2]) := by rw [upd_ne (ne_of_none epd2 hTL)]; exact epd2
  generalize upd H2 TL (.tup [.int r1, .int r2]) = H3 at off3 epd3
  generalize upd G TL (.tup [.int r1, .int r2]) = G3 at off3 sG3 eTL
  refine ⟨_, rfl, _, rfl, (by show 3 ≤ sizeLine; decide), fun KL hKL => ?_⟩
  have off4 := off3.lay hKL (.lst [.str "and", .str "or", .str "odd"])
  have sG4 := off3.add hKL (.lst [.str "and", .str "or", .str "odd"])
  have eKL : (upd G3 KL (.lst [.str "and", .str "or", .str "odd"])) KL = some (.lst [.str "and", .str "or", .str "odd"]) := upd_same
  have epd4 : (upd H3 KL (.lst [.str "and", .str "or", .str "odd"])) pd = some (.lst [.int n2]) := by rw [upd_ne (ne_of_none epd3 hKL)]; exact epd3
  generalize upd H3 KL (.lst [.str "and", .str "or", .str "odd"]) = H4 at off4 epd4
  generalize upd G3 KL (.lst [.str "and", .str "or", .str "odd"]) = G4 at off4 sG4 eKL
  refine ⟨_, rfl, pd, n2, 3, rfl, epd4, by decide, by decide, fun r3 n3 a3 b3 => ?_⟩
  have off5 := off4.write (.head _) (.lst [.int n3])
  have s5 : Same G4 (upd H4 pd (.lst [.int n3])) := off5.same
  generalize upd H4 pd (.lst [.int n3]) = H5 at s5
  have sG5 : Same G H5 := (sG3.trans sG4).trans s5
  obtain ⟨kd, hkd, fk⟩ : ∃ kd : Str, atI [V.str "and", .str "or", .str "odd"] r3 = some (.str kd) ∧ (kd = "and" ∨ kd = "or" ∨ kd = "odd") := by
    have : r3 = 0 ∨ r3 = 1 ∨ r3 = 2 := by omega
    rcases this with rfl | rfl | rfl
    · exact ⟨_, rfl, .inl rfl⟩
    · exact ⟨_, rfl, .inr (.inl rfl)⟩
    · exact ⟨_, rfl, .inr (.inr rfl)⟩
  have gn : GoodNew w (kd, [r1, r2]) := ⟨.inl ⟨fk, by show 2 ≤ 2; decide, by show 2 ≤ 4; decide⟩, fun l hl => by
    have hl' : l = r1 ∨ l = r2 := by
      rcases List.mem_cons.mp hl with e | e
      · exact .inl e
      · exact .inr (List.mem_singleton.mp e)
    omega⟩
  refine ⟨KL, _, _, _, rfl, rfl, .of (s5 _ _ eKL), hkd, _, rfl, (by show 2 ≤ sizeLine; decide), fun TG hTG => ⟨(by show 1 ≤ sizeLine; decide), fun LG hLG => ?_⟩⟩
  have kTG := same_upd hTG (.tup [.str kd, .ref TL])
  have kLG := same_upd hLG (.lst [.ref TG])
  have eTG : (upd (upd H5 TG (.tup [.str kd, .ref TL])) LG (.lst [.ref TG])) TG = some (.tup [.str kd, .ref TL]) := kLG _ _ upd_same
  have eLG : (upd (upd H5 TG (.tup [.str kd, .ref TL])) LG (.lst [.ref TG])) LG = some (.lst [.ref TG]) := upd_same
  have s6 := kTG.trans kLG
  generalize upd (upd H5 TG (.tup [.str kd, .ref TL])) LG (.lst [.ref TG]) = H6 at s6 eTG eLG
  have sG6 := sG5.trans s6
  refine ⟨ga, LG, gs, _, rfl, rfl, sG6.seq hg, .of eLG, bigE (by show _ + 1 ≤ _; omega), fun GG hGG => ?_⟩
  have kGG := same_upd hGG (.lst (gs ++ [.ref TG]))
  refine ⟨_, rfl, _, rfl, (by show 1 ≤ sizeLine; decide), fun LO hLO => ?_⟩
  have kLO := same_upd hLO (.lst [.int (w.ins + (gs.length : Int))])
  have s8 := kGG.trans kLO
  refine ⟨oa, LO, _, _, rfl, rfl, (sG6.trans s8).seq ho, .of upd_same, bigE (by rw [List.length_map]; show _ + 1 ≤ _; omega), fun OO hOO => ⟨(by show 3 ≤ sizeLine; decide), fun MM hMM => ?_⟩⟩
  have kOO := same_upd hOO (.lst (w.outs.map V.int ++ [.int (w.ins + (gs.length : Int))]))
  have kMM := same_upd hMM (.tup [.int w.ins, .ref GG, .ref OO])
  have eMM : Rep K (upd (upd (upd (upd H6 GG (.lst (gs ++ [.ref TG]))) LO (.lst [.int (w.ins + (gs.length : Int))])) OO (.lst (w.outs.map V.int ++ [.int (w.ins + (gs.length : Int))]))) MM (.tup [.int w.ins, .ref GG, .ref OO])) (.ref MM) (worksD (moreW w (kd, [r1, r2]))) := by
    have sm := ((kLO.trans kOO).trans kMM)
    have sall := kGG.trans sm
    refine .tup (.of upd_same) (.cons (.int _) (.cons (.lst (.of (sm _ _ upd_same)) ?_) (.cons (.lst (.of (kMM _ _ upd_same)) ?_) .nil)))
    · show Reps K _ (gs ++ [V.ref TG]) ((w.gates ++ [(kd, [r1, r2])]).map gateD)
      rw [List.map_append]
      refine (rg.mono (sG6.trans sall)).append (.cons (.tup (.of (sall _ _ eTG)) (.cons (.str _) (.cons (.tup (.of (((sG4.trans s5).trans (s6.trans sall)) _ _ eTL)) (.cons (.int _) (.cons (.int _) .nil))) .nil))) .nil)
    · show Reps K _ (w.outs.map V.int ++ [V.int (w.ins + (gs.length : Int))]) ((w.outs ++ [w.ins + (w.gates.length : Int)]).map .int)
      rw [List.map_append, ← lg]
      exact (Reps.ints _).append (.cons (.int _) .nil)
  have sG9 := ((sG6.trans s8).trans kOO).trans kMM
  generalize upd (upd (upd (upd H6 GG (.lst (gs ++ [.ref TG]))) LO (.lst [.int (w.ins + (gs.length : Int))])) OO (.lst (w.outs.map V.int ++ [.int (w.ins + (gs.length : Int))]))) MM (.tup [.int w.ins, .ref GG, .ref OO]) = H9 at eMM sG9
  refine ⟨(by show 0 ≤ sizeLine; decide), fun MV hMV => ?_⟩
  have hg9 := sG9.seq hg
  refine ⟨_, rfl, ga, rfl, ⟨_, (sG9.trans (same_upd hMV (.lst []))).seq hg⟩, for_list (K := K) (a := ga) (xs := gs)
    (fun j σ Ha => ∃ (us : List V) (G' : Hp) (o10 o11 : Option V), σ = [some (.ref pd), some (.ref a), some (.int (w.ins + (gs.length : Int))), some (.ref TL), some (.ref MM), some (.ref MV), none, some (.int w.ins), some (.ref ga), some (.ref oa), o10, o11] ∧ Same H9 G' ∧ Off [MV] G' Ha ∧ Ha MV = some (.lst us) ∧ Reps K G' us ((w.gates.take j).map fun g => gateD (movG g)))
    ⟨[], H9, _, _, rfl, Same.refl _, Off.start hMV _, upd_same, .nil⟩ (fun j σ Ha _ z => by obtain ⟨_, _, _, _, _, sg, og, _⟩ := z; exact (sg.trans og.same).seq hg9) ?_ ?_⟩
  · rintro j y σ Ha hy ⟨us, G', o10, o11, rfl, sg, og, eMV, rus⟩
    obtain ⟨dd, hdd, ry⟩ := rg.get hy
    rw [List.getElem?_map] at hdd
    cases hz : w.gates[j]? with
    | none => rw [hz] at hdd; cases hdd
    | some g =>
      rw [hz] at hdd
      cases hdd
      obtain ⟨b, la, rfl, hb, hla⟩ := gate_at ry
      have sGa := sG9.trans (sg.trans og.same)
      have l4 := (wf.legs j g hz).1.le
      have lj : j < w.gates.length := (List.getElem?_eq_some_iff.mp hz).1
      have lu : us.length = ((w.gates.take j)).length := by rw [rus.length, List.length_map]
      rw [List.length_take] at lu
      refine ⟨b, _, rfl, sGa.seqT hb, rfl, _, _, rfl, _, _, rfl, rfl, ?_⟩
      refine ⟨_, rfl, .inl ⟨rfl, _, .of eMV⟩, _, rfl, _, rfl, la, rfl, ⟨_, sGa.seqT hla⟩, fun D hD => comp_tup (K := K) (a := la) (xs := g.2.map V.int)
        (fun i Hb => Same Ha Hb ∧ Hb D = some (.lst (((g.2.take i).map (· + 1)).map V.int))) ⟨same_upd hD _, upd_same⟩ (fun i Hb _ z => (sGa.trans z.1).seqT hla) ?_ ?_⟩
      · rintro i v Hb hv ⟨sb, eD⟩
        rw [List.getElem?_map] at hv
        cases hn : g.2[i]? with
        | none => rw [hn] at hv; cases hv
        | some m =>
          rw [hn] at hv
          cases hv
          refine ⟨_, rfl, _, _, rfl, rfl, _, eD, big (by rw [List.length_map, List.length_map, List.length_take]; omega), sb.write hD _, ?_⟩
          rw [upd_same, List.take_add_one, hn, List.map_append, List.map_append]
          rfl
      rintro Hb ⟨sb, eD⟩
      rw [List.length_map, List.take_length] at eD
      refine ⟨D, _, rfl, .inl ⟨.of eD, fun T1 h1 => ⟨(by show 2 ≤ sizeLine; decide), fun T2 h2 => ?_⟩⟩⟩
      have k1 := same_upd h1 (.tup ((g.2.map (· + 1)).map V.int))
      have k2 := same_upd h2 (.tup [.str g.1, .ref T1])
      have sac := (sb.trans k1).trans k2
      have n1 : Ha T1 = none := sb.free h1
      have n2 : Ha T2 = none := (sb.trans k1).free h2
      have e1 := k2 _ _ (upd_same (H := Hb) (a := T1) (o := .tup ((g.2.map (· + 1)).map V.int)))
      have e2 := upd_same (H := upd Hb T1 (.tup ((g.2.map (· + 1)).map V.int))) (a := T2) (o := .tup [.str g.1, .ref T1])
      refine ⟨MV, us, _, rfl, rfl, sac _ _ eMV, big (by omega), us ++ [.ref T2], newsOf G' Ha (upd (upd Hb T1 (.tup ((g.2.map (· + 1)).map V.int))) T2 (.tup [.str g.1, .ref T1])), _, _, rfl, sg.trans (newsOf_same og.same), (newsOf_off og sac).write (.head _) _, upd_same, ?_⟩
      have et : w.gates.take (j + 1) = w.gates.take j ++ [g] := by rw [List.take_add_one, hz]; rfl
      rw [et, List.map_append]
      exact (rus.mono (newsOf_same og.same)).snoc (.tup (.of (by rw [newsOf_new n2]; exact e2)) (.cons (.str _) (.cons (.tup (.of (by rw [newsOf_new n1]; exact e1)) (Reps.ints _)) .nil)))
  rintro σ Ha ⟨us, G', o10, o11, rfl, sg, og, eMV, rus⟩
  rw [lg, List.take_length] at rus
  have s9a := sg.trans og.same
  have sGa := sG9.trans s9a
  have rusa := rus.mono og.same
  refine ⟨_, rfl, _, rfl, _, rfl, _, rfl, _, rfl, oa, _, rfl, rfl, sGa.seq ho, fun RV hRV => ⟨(by show 3 ≤ sizeLine; decide), fun T2 hT2 => ⟨(by show 2 ≤ sizeLine; decide), fun F hF => ?_⟩⟩⟩
  have kRV := same_upd hRV (.lst (w.outs.map V.int).reverse)
  have kT2 := same_upd hT2 (.tup [.int w.ins, .ref ga, .ref RV])
  have kF := same_upd hF (.lst [.ref MM, .ref T2])
  have sab := (kRV.trans kT2).trans kF
  have rT2p : Rep K (upd (upd Ha RV (.lst (w.outs.map V.int).reverse)) T2 (.tup [.int w.ins, .ref ga, .ref RV])) (.ref T2) (worksD (revW w)) := by
    have sp := kRV.trans kT2
    refine .tup (.of upd_same) (.cons (.int _) (.cons (.lst ((sGa.trans sp).seq hg) (rg.mono (sGa.trans sp))) (.cons (.lst (.of (kT2 _ _ upd_same)) ?_) .nil)))
    rw [← List.map_reverse]
    exact Reps.ints _
  have rT2 := rT2p.mono kF
  have eF : (upd (upd (upd Ha RV (.lst (w.outs.map V.int).reverse)) T2 (.tup [.int w.ins, .ref ga, .ref RV])) F (.lst [.ref MM, .ref T2])) F = some (.lst [.ref MM, .ref T2]) := upd_same
  have rMM := eMM.mono (s9a.trans sab)
  have nF : Ha F = none := (kRV.trans kT2).free hF
  have sap := kRV.trans kT2
  generalize upd (upd Ha RV (.lst (w.outs.map V.int).reverse)) T2 (.tup [.int w.ins, .ref ga, .ref RV]) = Hp1 at sab rT2 eF rMM rT2p kF hF sap
  generalize upd Hp1 F (.lst [.ref MM, .ref T2]) = Hb at sab rT2 eF rMM kF
  have sGb := sGa.trans sab
  refine ⟨_, rfl, _, _, rfl, rfl, _, rfl, ite2 (fun c => ?_) (fun c => ?_)⟩
  · have h5 : w.ins < 6 := of_decide_eq_true c
    refine ⟨_, rfl, .inl ⟨rfl, _, .of eF⟩, _, rfl, _, _, rfl, rfl, _, rfl, _, rfl, oa, rfl, ⟨_, sGb.seq ho⟩, fun D hD => comp_list (K := K) (a := oa) (xs := w.outs.map V.int)
      (fun i Hc => Same Hb Hc ∧ Hc D = some (.lst (((w.outs.take i).map (· + 1)).map V.int))) ⟨same_upd hD _, upd_same⟩ (fun i Hc _ z => (sGb.trans z.1).seq ho) ?_ ?_⟩
    · rintro i v Hc hv ⟨sc, eD⟩
      rw [List.getElem?_map] at hv
      cases hn : w.outs[i]? with
      | none => rw [hn] at hv; cases hv
      | some m =>
        rw [hn] at hv
        cases hv
        refine ⟨_, rfl, _, _, rfl, rfl, _, eD, big (by rw [List.length_map, List.length_map, List.length_take]; omega), sc.write hD _, ?_⟩
        rw [upd_same, List.take_add_one, hn, List.map_append, List.map_append]
        rfl
    rintro Hc ⟨sc, eD⟩
    rw [List.length_map, List.take_length] at eD
    refine ⟨(by show 3 ≤ sizeLine; decide), fun T3 h3 => ?_⟩
    have k3 := same_upd h3 (.tup [.int (w.ins + 1), .ref MV, .ref D])
    have sbd := sc.trans k3
    refine ⟨F, _, _, rfl, rfl, sbd _ _ eF, big (by show 2 ≤ 100000; decide), ?_⟩
    have sfin : Same Hp1 (upd (upd Hc T3 (.tup [.int (w.ins + 1), .ref MV, .ref D])) F (.lst ([.ref MM, .ref T2] ++ [.ref T3]))) := (kF.trans sbd).write hF _
    have safin : Same Ha (upd (upd Hc T3 (.tup [.int (w.ins + 1), .ref MV, .ref D])) F (.lst ([.ref MM, .ref T2] ++ [.ref T3]))) := sap.trans sfin
    have T3F : T3 ≠ F := Ne.symm (ne_of_none (sc _ _ eF) h3)
    have DF : D ≠ F := Ne.symm (ne_of_none eF hD)
    have DT3 : D ≠ T3 := ne_of_none eD h3
    have r3 : Rep K (upd (upd Hc T3 (.tup [.int (w.ins + 1), .ref MV, .ref D])) F (.lst ([.ref MM, .ref T2] ++ [.ref T3]))) (.ref T3) (worksD (movW w)) := by
      have e3 : (upd (upd Hc T3 (.tup [.int (w.ins + 1), .ref MV, .ref D])) F (.lst ([.ref MM, .ref T2] ++ [.ref T3]))) T3 = some (.tup [.int (w.ins + 1), .ref MV, .ref D]) := by rw [upd_ne T3F, upd_same]
      have eD3 : (upd (upd Hc T3 (.tup [.int (w.ins + 1), .ref MV, .ref D])) F (.lst ([.ref MM, .ref T2] ++ [.ref T3]))) D = some (.lst ((w.outs.map (· + 1)).map V.int)) := by rw [upd_ne DF, upd_ne DT3]; exact eD
      refine .tup (.of e3) (.cons (.int _) (.cons (.lst (.of (safin _ _ eMV)) ?_) (.cons (.lst (.of eD3) (Reps.ints _)) .nil)))
      show Reps K _ us ((w.gates.map movG).map gateD)
      rw [List.map_map]
      exact rusa.mono safin
    refine ⟨_, rfl, q F ([.ref MM, .ref T2] ++ [.ref T3]) (kd, [r1, r2]) [revW w, movW w] _ (sGa.trans safin) upd_same (.cons (eMM.mono (s9a.trans safin)) (.cons (rT2p.mono sfin) (.cons r3 .nil))) gn (fun v hv => ?_) (by show 2 ≤ 2; decide)⟩
    rcases List.mem_cons.mp hv with rfl | hv
    · exact revW_wf wf
    · rw [List.mem_singleton.mp hv]
      exact movW_wf wf h5
  · refine ⟨_, rfl, q F [.ref MM, .ref T2] (kd, [r1, r2]) [revW w] Hb sGb eF (.cons rMM (.cons rT2 .nil)) gn (fun v hv => by rw [List.mem_singleton.mp hv]; exact revW_wf wf) (by show 1 ≤ 2; decide)⟩
theorem sc_law_row_more : FnScope ["works", "other", "rows", "gate", "kind", "legs"] ["works", "other"] (defScope s_law_row_more) := ⟨rfl, rfl, rfl, by decide +kernel, rfl, by decide +kernel, by decide +kernel⟩
theorem ok_law_row_more (T : Txt K mg t) : FnOk P w K mg base CX0 3 t.f_law_row_more t.fd_law_row_more ["works", "other"] (sp_rm K) := by
  refine T.d_law_row_more.F.okB sc_law_row_more (fun vs H Q E h => ?_) (fun cdv A outer s H vs Q E hr h => ?_)
  · obtain ⟨x, y, w, g, rfl, _⟩ := h
    rfl
  obtain ⟨x, y, w, g, rfl, hx, hy, wf, gn, q⟩ := h
  have hu64 := hr.units
  have wf20 := wf.mono (show 10 ≤ 20 by decide)
  have wo := oneW_wf wf gn
  have gok := new_ok wf gn
  have few := wf.few
  have gfew := gok.few
  obtain ⟨a2, ga2, oa2, gs2, os2, rfl, ha2, hg2, ho2, rg2, ro2⟩ := gates_at hy
  obtain ⟨ys, v, rfl, rys, rv⟩ : ∃ ys v, gs2 = ys ++ [v] ∧ Reps K H ys (w.gates.map gateD) ∧ Rep K H v (gateD g) := by
    have z : Reps K H gs2 ((w.gates ++ [g]).map gateD) := rg2
    rw [List.map_append] at z
    obtain ⟨ys, zs, rfl, h1, h2⟩ := reps_split z
    cases h2 with
    | cons h2 h3 =>
      cases h3
      exact ⟨ys, _, rfl, h1, h2⟩
  obtain ⟨b, la, rfl, hb, hla⟩ := gate_at rv
  refine ⟨_, (bpss_cons (bps_set (k := 2) sc_law_row_more.nd rfl (Or.inl rfl) (bpe_bm PySem.F.plainAttrs_str PySem.F.slot_str_split PySem.F.type_str_split mt_split (bpe_call (ok_show_works T) (hr.mono (by decide)) rfl T.d_show_works.m T.d_show_works.F.kp T.d_show_works.b .nil pass0 (bpa_cons (bpv 0) (bpa_nil))) (bpa_cons bpe_str (bpa_nil))))
    (bpss_cons (bps_asg (bpe_ix ix_list (bpe_ix ix_tup (bpv 1) bpe_int (fun _ _ => rfl)) (bpe_un un_neg bpe_int) (fun _ _ => rfl)) (bpg_tup rfl (bpgs_cons (bpg_name (k := 4) sc_law_row_more.nd rfl (Or.inl rfl)) (bpgs_cons (bpg_name (k := 5) sc_law_row_more.nd rfl (Or.inl rfl)) bpgs_nil))))
    (bpss_cons (bps_set (k := 3) sc_law_row_more.nd rfl (Or.inl rfl) (bpe_bm PySem.F.plainAttrs_str PySem.F.slot_str_join PySem.F.type_str_join mt_join bpe_str (bpa_cons (bpe_op op_cat (bpe_lst (bpa_cons (bpv 4) (bpa_nil))) (bpe_comp rfl (N := ["leg"]) (n := 1) (cap := []) (blk_of rfl rfl) (bpi_tup (bpv 5)) (keep_name (by decide)) (fun _ _ _ _ => (bpg_name (k := 0) (show (["leg"] : List Str).Nodup by decide +kernel) rfl (Or.inl rfl))) (fun _ _ _ _ => bpts_nil) (fun _ _ _ _ => (bpe_callTy call_str_int rfl T.z_str PyProof.Rows.boot_str (bpa_cons (bpv 0) (bpa_nil)))))) (bpa_nil))))
    (bpss_one (bps_ret (bpe_bm PySem.F.plainAttrs_str PySem.F.slot_str_join PySem.F.type_str_join mt_join bpe_str (bpa_cons (bpe_op op_cat (bpe_op op_cat (bpe_slice sl_list (bpv 2) bpo_none (bpo_some (bpe_un un_neg bpe_int))) (bpe_lst (bpa_cons (bpv 3) (bpa_nil)))) (bpe_slice sl_list (bpv 2) (bpo_some (bpe_un un_neg bpe_int)) bpo_none)) (bpa_nil)))))))), ?_⟩
  refine ⟨_, rfl, x, w, rfl, hx, wf20, fun H1 s1 => ⟨rfl, textW w, Str.ofString "\n", rfl, rfl, by rw [feed]; exact text_kd wf20, by rw [feed]; rfl, text_len wf20, fun S hS => ?_⟩⟩
  have ep : (Builtin.Str.partsBetween (textW w) (Builtin.Str.occurrences (textW w) (Str.ofString "\n") 0 (textW w).length ((textW w).length + 1)) (Str.ofString "\n").length).map V.str = (.str (txtW ⟨"in", [w.ins]⟩) :: ((gatesR w.gates).map txtW).map V.str) ++ [V.str (txtW ⟨"out", w.outs⟩)] := by
    rw [feed, text_split wf20]
    unfold rowsW
    rw [List.map_cons, List.map_cons, List.map_append, List.map_append]
    rfl
  rw [ep]
  have kS := same_upd hS (.lst ((.str (txtW ⟨"in", [w.ins]⟩) :: ((gatesR w.gates).map txtW).map V.str) ++ [V.str (txtW ⟨"out", w.outs⟩)]))
  have eS : (upd H1 S (.lst ((.str (txtW ⟨"in", [w.ins]⟩) :: ((gatesR w.gates).map txtW).map V.str) ++ [V.str (txtW ⟨"out", w.outs⟩)]))) S = some (.lst ((.str (txtW ⟨"in", [w.ins]⟩) :: ((gatesR w.gates).map txtW).map V.str) ++ [V.str (txtW ⟨"out", w.outs⟩)])) := upd_same
  have s2 := s1.trans kS
  generalize upd H1 S (.lst ((.str (txtW ⟨"in", [w.ins]⟩) :: ((gatesR w.gates).map txtW).map V.str) ++ [V.str (txtW ⟨"out", w.outs⟩)])) = H2 at eS s2
  refine ⟨_, rfl, a2, _, _, _, rfl, rfl, s2.seqT ha2, rfl, _, rfl, ga2, _, _, _, rfl, rfl, s2.seq hg2, at_last _ _, b, _, rfl, s2.seqT hb, rfl, _, _, rfl, _, _, rfl, rfl, ?_⟩
  refine ⟨rfl, _, rfl, (by show 1 ≤ sizeLine; decide), fun L hL => ?_⟩
  have kL := same_upd hL (.lst [.str g.1])
  have s2L := s2.trans kL
  refine ⟨_, rfl, la, rfl, ⟨_, s2L.seqT hla⟩, fun D hD => comp_tup (K := K) (a := la) (xs := g.2.map V.int)
    (fun j H4 => Same (upd H2 L (.lst [.str g.1])) H4 ∧ H4 D = some (.lst (((g.2.take j).map numS).map V.str))) ⟨same_upd hD _, upd_same⟩ (fun j H4 _ z => (s2L.trans z.1).seqT hla) ?_ ?_⟩
  · rintro j y H4 hy ⟨s4, eD⟩
    rw [List.getElem?_map] at hy
    cases hz : g.2[j]? with
    | none => rw [hz] at hy; cases hy
    | some n =>
      rw [hz] at hy
      cases hy
      have hn := gok.num n (List.mem_of_getElem? hz)
      have gl : g.2.length ≤ 60 := gfew
      refine ⟨_, rfl, n, rfl, log_ok hn, _, eD, big (by rw [List.length_map, List.length_map, List.length_take]; omega), s4.write hD _, ?_⟩
      rw [upd_same, List.take_add_one, hz, List.map_append, List.map_append]
      rfl
  rintro H4 ⟨s4, eD⟩
  rw [List.length_map, List.take_length] at eD
  have gl : g.2.length ≤ 60 := gfew
  refine ⟨L, D, _, _, rfl, rfl, s4 _ _ upd_same, eD, bigE (by rw [List.length_map, List.length_map]; show 1 + _ ≤ _; omega), fun C hC => ?_⟩
  have kC := same_upd hC (.lst ([.str g.1] ++ (g.2.map numS).map V.str))
  have hw := gok.short
  have hs := sum_le (g := fun z : Str => z.length) (k := 41) (l := g.2.map numS) fun z hz => by
    obtain ⟨n, hn, rfl⟩ := List.mem_map.mp hz
    exact numS_len (gok.num n hn)
  rw [List.length_map] at hs
  refine ⟨_, C, g.1 :: g.2.map numS, rfl, rfl, upd_same, by rw [List.length_cons]; omega, ?_, ?_⟩
  · rw [List.map_cons, List.sum_cons, List.length_cons, List.length_map, blank]
    have hw' : g.1.length ≤ 10 := hw
    show g.1.length + _ + (g.2.length + 1) * 1 ≤ 100000
    omega
  have ejt : Str.join (Str.ofString " ") (g.1 :: g.2.map numS) = txtW ⟨g.1, g.2⟩ := join_txt gok
  rw [ejt]
  have s5 := ((s2L.trans s4).trans kC)
  have eS5 := ((kL.trans s4).trans kC) _ _ eS
  generalize upd H4 C (.lst ([.str g.1] ++ (g.2.map numS).map V.str)) = H5 at s5 eS5
  have lR : ((gatesR w.gates).map txtW).length ≤ 20 := by unfold gatesR; rw [List.length_map, List.length_map]; omega
  refine ⟨rfl, _, rfl, _, rfl, _, rfl, S, _, rfl, .of eS5, fun L1 h1 => ?_⟩
  rw [show (-(1 : Int)) = -1 from rfl, cut_last]
  have k1 := same_upd h1 (.lst (.str (txtW ⟨"in", [w.ins]⟩) :: ((gatesR w.gates).map txtW).map V.str))
  refine ⟨_, rfl, (by show 1 ≤ sizeLine; decide), fun L2 h2 => ?_⟩
  have k2 := same_upd h2 (.lst [.str (txtW ⟨g.1, g.2⟩)])
  refine ⟨L1, L2, _, _, rfl, rfl, k2 _ _ upd_same, upd_same, bigE (by rw [List.length_cons, List.length_map]; show _ + 1 ≤ _; omega), fun L3 h3 => ?_⟩
  have k3 := same_upd h3 (.lst ((.str (txtW ⟨"in", [w.ins]⟩) :: ((gatesR w.gates).map txtW).map V.str) ++ [.str (txtW ⟨g.1, g.2⟩)]))
  refine ⟨_, rfl, _, rfl, _, rfl, S, _, rfl, .of (((k1.trans k2).trans k3) _ _ eS5), fun L4 h4 => ?_⟩
  rw [show (-(1 : Int)) = -1 from rfl, cut_tail]
  have k4 := same_upd h4 (.lst [V.str (txtW ⟨"out", w.outs⟩)])
  refine ⟨L3, L4, _, _, rfl, rfl, k4 _ _ upd_same, upd_same, bigE (by rw [List.length_append, List.length_cons, List.length_map]; show _ + 1 + 1 ≤ _; omega), fun L5 h5 => ?_⟩
  have ez : ((V.str (txtW ⟨"in", [w.ins]⟩) :: ((gatesR w.gates).map txtW).map V.str) ++ [.str (txtW ⟨g.1, g.2⟩)]) ++ [V.str (txtW ⟨"out", w.outs⟩)] = ((rowsW (oneW w g)).map txtW).map V.str := by
    unfold rowsW oneW gatesR
    rw [List.map_cons, List.map_cons, List.map_append, List.map_append, List.map_append, List.map_append, List.map_append]
    rfl
  rw [ez]
  refine ⟨_, L5, (rowsW (oneW w g)).map txtW, rfl, rfl, upd_same, by unfold rowsW; rw [List.length_map, List.length_cons]; omega, text_sum wo, ?_⟩
  rw [join_text]
  exact q _ ((((((s5.trans k1).trans k2).trans k3).trans k4)).upd h5 _)
theorem sc_law : FnScope ["script", "cell", "deck", "works", "text", "known", "fault", "others", "other", "more", "row", "told"] ["script"] (defScope s_law) := ⟨rfl, rfl, rfl, by decide +kernel, rfl, by decide +kernel, by decide +kernel⟩
theorem cutJ (ns : List Int) (lo hi : Option Int) : ∃ ms : List Int, cutV (ns.map V.int) lo hi = ms.map V.int ∧ ms.length ≤ ns.length := by
  refine ⟨(ns.drop (HT.sIx (ns.map V.int).length 0 lo)).take (HT.sIx (ns.map V.int).length (ns.map V.int).length hi - HT.sIx (ns.map V.int).length 0 lo), ?_, ?_⟩
  · unfold cutV
    rw [List.map_take, List.map_drop]
  · rw [List.length_take, List.length_drop]
    omega
theorem flat_mem {f : Rwt} {H : Hp} {p : Addr} (h : Rep K H (.ref p) (wfD f)) : SqT K H p (.str f.word :: f.ns.map V.int) := by
  have h' : Rep K H (.ref p) (.tuple (.str f.word :: f.ns.map .int)) := h
  cases h' with
  | tup a r =>
    cases r with
    | cons r1 r2 =>
      cases r1
      rw [reps_ints r2] at a
      exact a
theorem ok_law (T : Txt K mg t) : FnOk P w K mg base CX0 5 t.f_law t.fd_law ["script"] (sp_law K) := by
  refine T.d_law.F.okB sc_law (fun vs H Q E h => ?_) (fun cdv A outer s H vs Q E hr h => ?_)
  · obtain ⟨a, ns, rfl, _⟩ := h
    rfl
  obtain ⟨a, ns, rfl, hS, h63, q⟩ := h
  have hu64 := hr.units
  have hu1 := hu_of hr
  refine ⟨_, (bpss_cons (bps_for PassesOwn.never rfl (bpi_list (bpe_op op_cat (bpe_lst (bpa_cons (bpe_op op_pow bpe_int bpe_int) (bpa_nil))) (bpe_slice sl_list (bpv 0) bpo_none (bpo_some bpe_int)))) (bpg_name (k := 1) sc_law.nd rfl (Or.inl rfl)) (bpss_cons (bps_set (k := 2) sc_law.nd rfl (Or.inl rfl) (bpe_call (ok_law_deck T) (hr.mono (by decide)) rfl T.d_law_deck.m T.d_law_deck.F.kp T.d_law_deck.b .nil pass0 (bpa_cons (bpv 1) (bpa_nil))))
    (bpss_cons (bps_set (k := 3) sc_law.nd rfl (Or.inl rfl) (bpe_call (ok_law_works T) (hr.mono (by decide)) rfl T.d_law_works.m T.d_law_works.F.kp T.d_law_works.b .nil pass0 (bpa_cons (bpv 2) ( bpa_cons bpe_int (bpa_nil)))))
    (bpss_cons (bps_set (k := 4) sc_law.nd rfl (Or.inl rfl) (bpe_call (ok_show_works T) (hr.mono (by decide)) rfl T.d_show_works.m T.d_show_works.F.kp T.d_show_works.b .nil pass0 (bpa_cons (bpv 3) (bpa_nil))))
    (bpss_cons (bps_set (k := 5) sc_law.nd rfl (Or.inl rfl) bpe_dnewK)
    (bpss_cons (bps_for PassesOwn.never rfl (bpi_list (bpe_call (ok_every_fault T) (hr.mono (by decide)) rfl T.d_every_fault.m T.d_every_fault.F.kp T.d_every_fault.b .nil pass0 (bpa_cons (bpv 3) (bpa_nil)))) (bpg_name (k := 6) sc_law.nd rfl (Or.inl rfl)) (bpss_cons (bps_set (k := 11) sc_law.nd rfl (Or.inl rfl) (bpe_call (ok_show_fault T) (hr.mono (by decide)) rfl T.d_show_fault.m T.d_show_fault.F.kp T.d_show_fault.b .nil pass0 (bpa_cons (bpv 6) (bpa_nil))))
    (bpss_cons (bps_if (bPW_pt (bpw_or (bpt_cmpR (op_neD hu64) (bpe_call (ok_read_fault T) (hr.mono (by decide)) rfl T.d_read_fault.m T.d_read_fault.F.kp T.d_read_fault.b .nil pass0 (bpa_cons (bpv 11) (bpa_nil))) (bpv 6) (nomark _)) (bpw_or1 (bpt_cmp (bpc_din hu1 (bpv 11) (bpv 5)))))) (bpss_one (bps_ret bpe_bl)) bpss_nil)
    (bpss_one (bps_dput hu1 (bpv 5) (bpv 11) bpe_bl rfl)))))
    (bpss_cons (bps_set (k := 7) sc_law.nd rfl (Or.inl rfl) (bpe_call (ok_law_others T) (hr.mono (by decide)) rfl T.d_law_others.m T.d_law_others.F.kp T.d_law_others.b .nil pass0 (bpa_cons (bpv 2) ( bpa_cons (bpv 3) (bpa_nil)))))
    (bpss_cons (bps_for PassesOwn.never rfl (bpi_list (bpv 7)) (bpg_name (k := 8) sc_law.nd rfl (Or.inl rfl)) (bpss_one (bps_if (bPW_pt (bpw_or (bpt_cmpR (op_neD hu64) (bpe_call (ok_read_works T) (hr.mono (by decide)) rfl T.d_read_works.m T.d_read_works.F.kp T.d_read_works.b .nil pass0 (bpa_cons (bpe_call (ok_show_works T) (hr.mono (by decide)) rfl T.d_show_works.m T.d_show_works.F.kp T.d_show_works.b .nil pass0 (bpa_cons (bpv 8) (bpa_nil))) (bpa_nil))) (bpv 8) (nomark _)) (bpw_or1 (bpt_cmpR op_ne (bpe_cmpR op_eq (bpe_call (ok_show_works T) (hr.mono (by decide)) rfl T.d_show_works.m T.d_show_works.F.kp T.d_show_works.b .nil pass0 (bpa_cons (bpv 8) (bpa_nil))) (bpv 4) (nomark _)) (bpe_cmpR (op_eqD hu64) (bpv 8) (bpv 3) (nomark _)) (nomark _))))) (bpss_one (bps_ret bpe_bl)) bpss_nil)))
    (bpss_cons (bps_set (k := 9) sc_law.nd rfl (Or.inl rfl) (bpe_call (ok_read_works T) (hr.mono (by decide)) rfl T.d_read_works.m T.d_read_works.F.kp T.d_read_works.b .nil pass0 (bpa_cons (bpe_call (ok_law_row_more T) (hr.mono (by decide)) rfl T.d_law_row_more.m T.d_law_row_more.F.kp T.d_law_row_more.b .nil pass0 (bpa_cons (bpv 3) ( bpa_cons (bpe_ix ix_list (bpv 7) bpe_int (fun _ _ => rfl)) (bpa_nil)))) (bpa_nil))))
    (bpss_cons (bps_if (bPW_pt (bpw_or (bpt_cmpR (op_neD hu64) (bpv 9) (bpe_tup (bpa_cons (bpe_ix ix_tup (bpv 3) bpe_int (fun _ _ => rfl)) ( bpa_cons (bpe_ix ix_tup (bpe_ix ix_list (bpv 7) bpe_int (fun _ _ => rfl)) bpe_int (fun _ _ => rfl)) ( bpa_cons (bpe_ix ix_tup (bpv 3) bpe_int (fun _ _ => rfl)) (bpa_nil))))) (nomark _)) (bpw_or1 (bpt_cmpR (op_neD hu64) (bpe_call (ok_read_works T) (hr.mono (by decide)) rfl T.d_read_works.m T.d_read_works.F.kp T.d_read_works.b .nil pass0 (bpa_cons (bpv 4) (bpa_nil))) (bpv 3) (nomark _))))) (bpss_one (bps_ret bpe_bl)) bpss_nil)
    (bpss_one (bps_for PassesOwn.never rfl (bpi_list (bpe_slice sl_list (bpe_call (ok_every_row T) (hr.mono (by decide)) rfl T.d_every_row.m T.d_every_row.F.kp T.d_every_row.b .nil pass0 (bpa_cons (bpv 3) (bpa_nil))) bpo_none (bpo_some bpe_int))) (bpg_name (k := 10) sc_law.nd rfl (Or.inl rfl)) (bpss_one (bps_if (bpt_cmpR (op_neD hu64) (bpe_slice sl_list (bpe_call (ok_wire_worths T) (hr.mono (by decide)) rfl T.d_wire_worths.m T.d_wire_worths.F.kp T.d_wire_worths.b .nil pass0 (bpa_cons (bpv 9) ( bpa_cons (bpv 10) (bpa_nil)))) bpo_none (bpo_some (bpe_un un_neg bpe_int))) (bpe_call (ok_wire_worths T) (hr.mono (by decide)) rfl T.d_wire_worths.m T.d_wire_worths.F.kp T.d_wire_worths.b .nil pass0 (bpa_cons (bpv 3) ( bpa_cons (bpv 10) (bpa_nil)))) (nomark _)) (bpss_one (bps_ret bpe_bl)) bpss_nil))))))))))))))
    (bpss_one (bps_ret bpe_bl))), ?_⟩
  refine ⟨_, _, rfl, rfl, ⟨by decide, by decide, by decide⟩, (by show 1 ≤ sizeLine; decide), fun p1 h1 => ?_⟩
  have s1 := same_upd h1 (.lst [.int (10 ^ (18 : Int).toNat)])
  refine ⟨_, rfl, _, rfl, a, _, rfl, s1.seq hS, fun p2 h2 => ?_⟩
  obtain ⟨ms, em, lm⟩ := cutJ ns none (some 4)
  have p12 : p1 ≠ p2 := ne_of_none upd_same h2
  have lc : (cutV (ns.map V.int) none (some 4)).length ≤ 63 := by rw [em, List.length_map]; omega
  refine ⟨p1, p2, _, _, rfl, rfl, by rw [upd_ne p12, upd_same], upd_same, bigE (by rw [List.length_singleton]; omega), fun p3 h3 => ?_⟩
  generalize upd (upd H p1 (.lst [.int (10 ^ (18 : Int).toNat)])) p2 (.lst (cutV (ns.map V.int) none (some 4))) = H2 at h3
  rw [em]
  have hq : SqL K (upd H2 p3 (.lst ([.int (10 ^ (18 : Int).toNat)] ++ ms.map V.int))) p3 ([.int (10 ^ (18 : Int).toNat)] ++ ms.map V.int) := .of upd_same
  generalize upd H2 p3 (.lst ([.int (10 ^ (18 : Int).toNat)] ++ ms.map V.int)) = H3 at hq
  refine ⟨p3, rfl, ⟨_, hq⟩, for_list (K := K) (a := p3) (xs := [.int (10 ^ (18 : Int).toNat)] ++ ms.map V.int)
    (fun i σ H4 => ∃ (o1 o2 o3 o4 o5 o6 o7 o8 o9 o10 o11 : Option V), σ = [some (.ref a), o1, o2, o3, o4, o5, o6, o7, o8, o9, o10, o11] ∧ Same H3 H4)
    ⟨_, _, _, _, _, _, _, _, _, _, _, rfl, Same.refl _⟩ (fun i σ H4 _ z => by obtain ⟨_, _, _, _, _, _, _, _, _, _, _, _, s4⟩ := z; exact s4.seq hq) ?_ (fun σ H4 _ => q H4)⟩
  rintro i x σ H4 hx ⟨o1, o2, o3, o4, o5, o6, o7, o8, o9, o10, o11, rfl, s4⟩
  obtain ⟨cc, rfl⟩ : ∃ cc, x = .int cc := by
    have hm := List.mem_of_getElem? hx
    rcases List.mem_append.mp hm with hm | hm
    · exact ⟨_, List.mem_singleton.mp hm⟩
    · obtain ⟨z, _, e⟩ := List.mem_map.mp hm
      exact ⟨z, e.symm⟩
  refine ⟨_, rfl, cc, rfl, fun pd n hd => ?_⟩
  refine ⟨_, rfl, pd, n, 10, rfl, upd_same, by decide, fun w r n' G H5 wf sb e5 sG gp gn rw0 => ?_⟩
  have s5 : Same H4 H5 := fun b o e => sb b o (ne_of_none e hd) (by rw [upd_ne (ne_of_none e hd)]; exact e)
  have wf20 := wf.mono (show 10 ≤ 20 by decide)
  have off5 : Off [pd] (hole' pd H5) H5 := hole_off' e5
  have rwG : Rep K (hole' pd H5) (.ref r) (worksD w) := rw0.mono (hole_same' sG gp)
  have s4G : Same H4 (hole' pd H5) := hole_same' s5 hd
  have rw5 := rw0.mono sG
  refine ⟨_, rfl, .ref r, w, rfl, rw5, wf20, fun H6 s6 => ?_⟩
  refine fun KN hKN => ?_
  have kKN := same_upd hKN (.dK [])
  have eKN7 : (upd H6 KN (.dK [])) KN = some (.dK []) := upd_same
  generalize upd H6 KN (.dK []) = H7 at kKN eKN7
  have s57 := s6.trans kKN
  refine ⟨_, rfl, .ref r, w, rfl, rw5.mono s57, wf20, fun F xs H8 bd => ?_⟩
  have s78 := bd.same
  have eKN8 := s78 _ _ eKN7
  have s58 := s57.trans s78
  have oKN : Off [KN] (hole' KN H8) H8 := hole_off' eKN8
  have FK : F ≠ KN := fun z => by have := bd.at_; rw [z, eKN8] at this; cases this
  have eF : (hole' KN H8) F = some (.lst xs) := by rw [hole_ne' FK]; exact bd.at_
  have rxs : Reps K (hole' KN H8) xs ((faultsR w).map wfD) := by
    rw [faultsR_D]
    obtain ⟨G0, g1, g2, g3, g4⟩ := bd.ex
    exact reps_dk eKN8 (g4.mono g2)
  have s5G : Same H5 (hole' KN H8) := hole_same' s58 (s6.free hKN)
  have lxs : xs.length = (faultsR w).length := by rw [rxs.length, List.length_map]
  have many := faults_many wf20
  generalize hole' KN H8 = Gc at oKN eF rxs s5G
  refine ⟨F, rfl, ⟨_, .of (oKN.same _ _ eF)⟩, for_list (K := K) (a := F) (xs := xs)
    (fun j σ H9 => ∃ (kvs : List (Key × V)) (o6 o11 : Option V), σ = [some (.ref a), some (.int cc), some (.ref pd), some (.ref r), some (.str (textW w)), some (.ref KN), o6, o7, o8, o9, o10, o11] ∧ Off [KN] Gc H9 ∧ H9 KN = some (.dK kvs) ∧ kvs.length ≤ j ∧ ∀ f ∈ (faultsR w).drop j, valV kvs (Sum.inr (txtW f)) = none)
    ⟨[], _, _, rfl, oKN, eKN8, Nat.le_refl _, fun _ _ => rfl⟩ (fun j σ H9 _ z => by obtain ⟨_, _, _, _, o9', _⟩ := z; exact .of (o9'.same _ _ eF)) ?_ ?_⟩
  · rintro j y σ H9 hy ⟨kvs, o6, o11, rfl, og, eKN, lk, no⟩
    obtain ⟨dd, hdd, ry⟩ := rxs.get hy
    rw [List.getElem?_map] at hdd
    cases hz : (faultsR w)[j]? with
    | none => rw [hz] at hdd; cases hdd
    | some f =>
      rw [hz] at hdd
      cases hdd
      have fok := faultsR_ok wf20 f (List.mem_of_getElem? hz)
      have lj : j < (faultsR w).length := (List.getElem?_eq_some_iff.mp hz).1
      obtain ⟨p, rfl⟩ : ∃ p, y = .ref p := by
        have z : Rep K Gc y (.tuple (.str f.word :: f.ns.map .int)) := ry
        cases z with
        | tup h r => exact ⟨_, rfl⟩
      have hp := flat_mem ry
      refine ⟨_, rfl, f, p, rfl, fok.ok, og.same.seqT hp, fun Ha sa => ?_⟩
      refine ⟨_, rfl, f, rfl, fok, fun rr Hb sb2 er => ?_⟩
      have s9b := sa.trans sb2
      have rr2 : Rep K Hb (.ref rr) (wfD f) := .tup (.of er) (.cons (.str _) (Reps.ints _))
      refine ⟨_, rfl, wfD f, wfD f, rr2, ry.mono (og.same.trans s9b), ok_wf fok 6, ok_wf fok 6, fun _ => ⟨_, rfl, iteF ?_⟩, fun z => absurd rfl z⟩
      have ed : (faultsR w).drop j = f :: (faultsR w).drop (j + 1) := by
        have := List.getElem_cons_drop lj
        rw [List.getElem?_eq_getElem lj] at hz
        rw [← Option.some.inj hz]
        exact this.symm
      have vn : valV kvs (Sum.inr (txtW f)) = none := no f (by rw [ed]; exact .head _)
      have eKNb := s9b _ _ eKN
      refine ⟨_, rfl, _, rfl, KN, _, rfl, DGet.k (k := Sum.inr (txtW f)) eKNb, _, rfl, ?_⟩
      rw [vn]
      refine iteF ?_
      have sl : sizeLine = 16777216 := by decide
      refine ⟨_, rfl, _, rfl, KN, _, rfl, .inl ⟨kvs, Sum.inr (txtW f), eKNb, rfl, by omega, rfl⟩, putK kvs (Sum.inr (txtW f)) (.bl true), _, _, rfl, (og.grow s9b).write (.head _) _, upd_same, Nat.le_trans (length_putK _ _ _) (by omega), fun g hg => ?_⟩
      rw [valV_put, if_neg (fun z => ?_)]
      · exact no g (by rw [ed]; exact .tail _ hg)
      · have et : txtW g = txtW f := Sum.inr.inj z
        have gm : g ∈ faultsR w := List.mem_of_mem_drop hg
        have egf := row_inj (faultsR_ok wf20 g gm).ok fok.ok et
        have nd : ((faultsR w).drop j).Nodup := (faultsR_nd w).sublist (List.drop_sublist _ _)
        rw [ed] at nd
        exact (List.nodup_cons.mp nd).1 (egf ▸ hg)
  rintro σ H9 ⟨kvs, o6, o11, rfl, og, eKN, lk, no⟩
  have s59 := s5G.trans og.same
  have off9 : Off [pd] (hole' pd H5) H9 := off5.grow s59
  refine ⟨_, rfl, _, rfl, pd, n', .ref r, w, hole' pd H5, rfl, s59 _ _ e5, off9, rwG, wf, fun r2 us g ws Ha sGa er2 rus gn wfs lws => ?_⟩
  have rwa := rwG.mono sGa
  have s4a := s4G.trans sGa
  have wfall : ∀ v ∈ moreW w g :: ws, WF 20 v := fun v hv => by
    rcases List.mem_cons.mp hv with rfl | hv
    · exact moreW_wf wf gn
    · exact wfs v hv
  refine ⟨_, rfl, r2, rfl, ⟨_, .of er2⟩, for_list (K := K) (a := r2) (xs := us)
    (fun j σ Hb => ∃ (o8 : Option V), σ = [some (.ref a), some (.int cc), some (.ref pd), some (.ref r), some (.str (textW w)), some (.ref KN), o6, some (.ref r2), o8, o9, o10, o11] ∧ Same Ha Hb)
    ⟨_, rfl, Same.refl _⟩ (fun j σ Hb _ z => by obtain ⟨_, _, sb2⟩ := z; exact .of (sb2 _ _ er2)) ?_ ?_⟩
  · rintro j y σ Hb hy ⟨o8, rfl, sb2⟩
    obtain ⟨dd, hdd, ry⟩ := rus.get hy
    rw [List.getElem?_map] at hdd
    cases hz : (moreW w g :: ws)[j]? with
    | none => rw [hz] at hdd; cases hdd
    | some v =>
      rw [hz] at hdd
      cases hdd
      have wfv := wfall v (List.mem_of_getElem? hz)
      have ryb := ry.mono sb2
      refine ⟨_, rfl, y, v, rfl, ryb, wfv, fun Hc sc => ⟨v, rfl, wfv, fun r3 g3 o3' gs3 os3 Hd sd nr3 ng3 no3 go3 gr3 or3 eg3 eo3 er3 rgs3 ros3 => ?_⟩⟩
      have sbd := sc.trans sd
      have rf3 : Rep K Hd (.ref r3) (worksD v) := .tup (.of er3) (.cons (.int _) (.cons (.lst (.of eg3) rgs3) (.cons (.lst (.of eo3) ros3) .nil)))
      refine ⟨_, rfl, worksD v, worksD v, rf3, ryb.mono sbd, ok_works wfv, ok_works wfv, fun _ => ⟨_, rfl, iteF ?_⟩, fun z => absurd rfl z⟩
      refine ⟨_, rfl, y, v, rfl, ryb.mono sbd, wfv, fun He se => ⟨_, rfl, rfl, _, rfl, _, rfl, worksD v, worksD w, ryb.mono (sbd.trans se), rwa.mono ((sb2.trans sbd).trans se), ok_works wfv, ok_works wf20, fun ee => ?_, fun ee => ?_⟩⟩
      · have e1 := worksD_inj ee
        subst e1
        rw [decide_eq_true rfl]
        exact ⟨rfl, _, rfl, ite2 (fun c => Bool.noConfusion c) (fun _ => ⟨_, rfl, (sb2.trans sbd).trans se⟩)⟩
      · rw [decide_eq_false (fun z => ee (by rw [text_inj wfv wf20 (V.str.inj z)]))]
        exact ⟨rfl, _, rfl, ite2 (fun c => Bool.noConfusion c) (fun _ => ⟨_, rfl, (sb2.trans sbd).trans se⟩)⟩
  rintro σ Hb ⟨o8, rfl, sb2⟩
  obtain ⟨y0, ys, rfl, ry0⟩ : ∃ y0 ys, us = y0 :: ys ∧ Rep K Ha y0 (worksD (moreW w g)) := by
    cases rus with
    | cons h t => exact ⟨_, _, rfl, h⟩
  have wfo := oneW_wf wf gn
  have rwb := rwa.mono sb2
  refine ⟨_, rfl, _, rfl, r2, _, _, _, rfl, rfl, .of (sb2 _ _ er2), atI_nat (j := 0) rfl, .ref r, y0, w, g, rfl, rwb, ry0.mono sb2, wf, gn, fun Hc sc => ⟨oneW w g, rfl, wfo, fun rm gm om gsm osm Hd sd nrm ngm nom gom grm orm egm eom erm rgm rom => ?_⟩⟩
  have sbd := sc.trans sd
  have sad := sb2.trans sbd
  have rmd : Rep K Hd (.ref rm) (worksD (oneW w g)) := .tup (.of erm) (.cons (.int _) (.cons (.lst (.of egm) rgm) (.cons (.lst (.of eom) rom) .nil)))
  have rwd := rwa.mono sad
  obtain ⟨a1, ga, oa, gs, os, ea, ha, hg, ho, rg, ro⟩ := gates_at rwd
  cases ea
  obtain ⟨a0, ga0, oa0, gs0, os0, rfl, ha0, hg0, ho0, rg0, ro0⟩ := gates_at (ry0.mono sad)
  refine ⟨_, rfl, _, rfl, r, _, _, _, rfl, rfl, ha, rfl, _, rfl, r2, _, _, _, rfl, rfl, .of (sad _ _ er2), atI_nat (j := 0) rfl, a0, _, _, _, rfl, rfl, ha0, rfl, _, rfl, r, _, _, _, rfl, rfl, ha, rfl, (by show 3 ≤ sizeLine; decide), fun TT hTT => ?_⟩
  have kTT := same_upd hTT (.tup [.int w.ins, .ref ga0, .ref oa])
  have rTT : Rep K (upd Hd TT (.tup [.int w.ins, .ref ga0, .ref oa])) (.ref TT) (worksD (oneW w g)) := .tup (.of upd_same) (.cons (.int _) (.cons (.lst (kTT.seq hg0) (rg0.mono kTT)) (.cons (.lst (kTT.seq ho) (ro.mono kTT)) .nil)))
  refine ⟨worksD (oneW w g), worksD (oneW w g), rmd.mono kTT, rTT, ok_works wfo, ok_works wfo, fun _ => ⟨_, rfl, iteF ?_⟩, fun z => absurd rfl z⟩
  refine ⟨_, rfl, w, rfl, wf20, fun r4 g4 o4' gs4 os4 He se nr4 ng4 no4 go4 gr4 or4 eg4 eo4 er4 rgs4 ros4 => ?_⟩
  have sde := kTT.trans se
  have rf4 : Rep K He (.ref r4) (worksD w) := .tup (.of er4) (.cons (.int _) (.cons (.lst (.of eg4) rgs4) (.cons (.lst (.of eo4) ros4) .nil)))
  refine ⟨_, rfl, worksD w, worksD w, rf4, rwd.mono sde, ok_works wf20, ok_works wf20, fun _ => ⟨_, rfl, iteF ?_⟩, fun z => absurd rfl z⟩
  have i1 := wf.i1
  have i6 := wf.i6
  refine ⟨_, rfl, r, ga, oa, w.ins, rfl, sde.seqT ha, by omega, i6, fun R qs Hf rws => ?_⟩
  refine ⟨_, rfl, R, _, rfl, rws.sq, fun S hS2 => ?_⟩
  have kS := same_upd hS2 (.lst (cutV (qs.map V.ref) none (some 8)))
  have eS : (upd Hf S (.lst (cutV (qs.map V.ref) none (some 8)))) S = some (.lst (cutV (qs.map V.ref) none (some 8))) := upd_same
  have sfs := rws.same.trans kS
  generalize upd Hf S (.lst (cutV (qs.map V.ref) none (some 8))) = Hg at kS eS sfs
  refine ⟨S, rfl, ⟨_, .of eS⟩, for_list (K := K) (a := S) (xs := cutV (qs.map V.ref) none (some 8))
    (fun j σ Hh => ∃ (o10 : Option V), σ = [some (.ref a), some (.int cc), some (.ref pd), some (.ref r), some (.str (textW w)), some (.ref KN), o6, some (.ref r2), o8, some (.ref rm), o10, o11] ∧ Same Hg Hh)
    ⟨_, rfl, Same.refl _⟩ (fun j σ Hh _ z => by obtain ⟨_, _, sh⟩ := z; exact .of (sh _ _ eS)) ?_ ?_⟩
  · rintro j y σ Hh hy ⟨o10, rfl, sh⟩
    have hm : y ∈ qs.map V.ref := List.mem_of_mem_drop (List.mem_of_mem_take (List.mem_of_getElem? hy))
    obtain ⟨qa, hqa, rfl⟩ := List.mem_map.mp hm
    obtain ⟨row, hrow, hq2⟩ := rws.rows.here hqa
    obtain ⟨lr, br⟩ := rowsV_row _ row hrow
    have hl : (row.length : Int) = w.ins := by omega
    have hqh := sh _ _ (kS _ _ hq2)
    have sdh := (sde.trans sfs).trans sh
    refine ⟨_, rfl, _, rfl, .ref rm, qa, oneW w g, row, rfl, rmd.mono sdh, wfo, .of hqh, hl, br, fun r5 Hi si ni ei => ?_⟩
    have ew : wiresV (oneW w g).gates row (oneW w g).gates.length = wiresV w.gates row w.gates.length ++ [gateV g.1 (g.2.map fun l => (wiresV w.gates row w.gates.length).getD l.toNat 0)] := by
      show wiresV (w.gates ++ [g]) row (w.gates ++ [g]).length = _
      rw [List.length_append, List.length_singleton]
      rw [wiresV, wiresV_pre _ _ _ _ (Nat.le_refl _), List.getElem?_append_right (Nat.le_refl _), Nat.sub_self]
      rfl
    rw [ew, List.map_append] at ei
    refine ⟨_, rfl, _, rfl, r5, _, rfl, .of ei, fun S2 hS3 => ?_⟩
    rw [show (-(1 : Int)) = -1 from rfl, show ([gateV g.1 (g.2.map fun l => (wiresV w.gates row w.gates.length).getD l.toNat 0)].map V.int) = [V.int (gateV g.1 (g.2.map fun l => (wiresV w.gates row w.gates.length).getD l.toNat 0))] from rfl, cut_last]
    have kS2 := same_upd hS3 (.lst ((wiresV w.gates row w.gates.length).map V.int))
    have shk := si.trans kS2
    refine ⟨_, rfl, _, rfl, .ref r, qa, w, row, rfl, rwd.mono (sdh.trans shk), wf20, .of (shk _ _ hqh), hl, br, fun r6 Hj sj nj ej => ?_⟩
    refine ⟨.list ((wiresV w.gates row w.gates.length).map Dat.int), .list ((wiresV w.gates row w.gates.length).map Dat.int), .lst (.of (sj _ _ upd_same)) (Reps.ints _), .lst (.of ej) (Reps.ints _), ok_ints8 _, ok_ints8 _, fun _ => ⟨_, rfl, iteF ?_⟩, fun z => absurd rfl z⟩
    exact ⟨_, rfl, (sh.trans shk).trans sj⟩
  · rintro σ Hh ⟨o10, rfl, sh⟩
    exact ⟨_, _, _, _, _, _, _, _, _, _, _, rfl, s4.trans (((s4a.trans (sad.trans sde)).trans sfs).trans sh)⟩
end
theorem all_mk {l : PySem.W.OpenLaw} {w : World} {K : PySem.W.Frag} {h : Heap} {mg : Str → Option Value} {fa f1 f2 f3 f4 f5 f6 f7 f8 f9 f10 f11 f12 f13 f14 f15 f16 f17 f18 f19 f20 f21 f22 f23 f24 : Addr} (X : K.In h) (G : h.Ns mainGlobals mg) (hfa : mg "law" = some (.ref fa))
    {od1 an1 od2 an2 od3 an3 od4 an4 od5 an5 od6 an6 od7 an7 od8 an8 od9 an9 od10 an10 od11 an11 od12 an12 od13 an13 od14 an14 od15 an15 od16 an16 od17 an17 od18 an18 od19 an19 od20 an20 od21 an21 od22 an22 od23 an23 od24 an24 : Option Addr} {sl1 sl2 sl3 sl4 sl5 sl6 sl7 sl8 sl9 sl10 sl11 sl12 sl13 sl14 sl15 sl16 sl17 sl18 sl19 sl20 sl21 sl22 sl23 sl24 : Array (Option Value)} {oc1 kV1 dc1 pm1 cd1 ct1 oc2 kV2 dc2 pm2 cd2 ct2 oc3 kV3 dc3 pm3 cd3 ct3 oc4 kV4 dc4 pm4 cd4 ct4 oc5 kV5 dc5 pm5 cd5 ct5 oc6 kV6 dc6 pm6 cd6 ct6 oc7 kV7 dc7 pm7 cd7 ct7 oc8 kV8 dc8 pm8 cd8 ct8 oc9 kV9 dc9 pm9 cd9 ct9 oc10 kV10 dc10 pm10 cd10 ct10 oc11 kV11 dc11 pm11 cd11 ct11 oc12 kV12 dc12 pm12 cd12 ct12 oc13 kV13 dc13 pm13 cd13 ct13 oc14 kV14 dc14 pm14 cd14 ct14 oc15 kV15 dc15 pm15 cd15 ct15 oc16 kV16 dc16 pm16 cd16 ct16 oc17 kV17 dc17 pm17 cd17 ct17 oc18 kV18 dc18 pm18 cd18 ct18 oc19 kV19 dc19 pm19 cd19 ct19 oc20 kV20 dc20 pm20 cd20 ct20 oc21 kV21 dc21 pm21 cd21 ct21 oc22 kV22 dc22 pm22 cd22 ct22 oc23 kV23 dc23 pm23 cd23 ct23 oc24 kV24 dc24 pm24 cd24 ct24 : Value}
    (a1 : PySem.W.nsIn K mainGlobals "works_of" = some (some (.ref f1))) (l1 : K.lookup f1 = some ⟨oc1, od1, .func (PySem.W.fnOf "works_of" "works_of" (defArgs s_works_of) (defBody s_works_of) (defScope s_works_of) .none kV1 dc1 pm1 an1 cd1 ct1), sl1⟩) (c1 : PySem.W.codeIn K cd1 "works_of" = true) (k1 : PySem.W.keepIn K (.ref f1) = true)
    (a2 : PySem.W.nsIn K mainGlobals "check_gate" = some (some (.ref f2))) (l2 : K.lookup f2 = some ⟨oc2, od2, .func (PySem.W.fnOf "check_gate" "check_gate" (defArgs s_check_gate) (defBody s_check_gate) (defScope s_check_gate) .none kV2 dc2 pm2 an2 cd2 ct2), sl2⟩) (c2 : PySem.W.codeIn K cd2 "check_gate" = true) (k2 : PySem.W.keepIn K (.ref f2) = true)
    (a3 : PySem.W.nsIn K mainGlobals "is_kind" = some (some (.ref f3))) (l3 : K.lookup f3 = some ⟨oc3, od3, .func (PySem.W.fnOf "is_kind" "is_kind" (defArgs s_is_kind) (defBody s_is_kind) (defScope s_is_kind) .none kV3 dc3 pm3 an3 cd3 ct3), sl3⟩) (c3 : PySem.W.codeIn K cd3 "is_kind" = true) (k3 : PySem.W.keepIn K (.ref f3) = true)
    (a4 : PySem.W.nsIn K mainGlobals "are_wires_below" = some (some (.ref f4))) (l4 : K.lookup f4 = some ⟨oc4, od4, .func (PySem.W.fnOf "are_wires_below" "are_wires_below" (defArgs s_are_wires_below) (defBody s_are_wires_below) (defScope s_are_wires_below) .none kV4 dc4 pm4 an4 cd4 ct4), sl4⟩) (c4 : PySem.W.codeIn K cd4 "are_wires_below" = true) (k4 : PySem.W.keepIn K (.ref f4) = true)
    (a5 : PySem.W.nsIn K mainGlobals "wire_worths" = some (some (.ref f5))) (l5 : K.lookup f5 = some ⟨oc5, od5, .func (PySem.W.fnOf "wire_worths" "wire_worths" (defArgs s_wire_worths) (defBody s_wire_worths) (defScope s_wire_worths) .none kV5 dc5 pm5 an5 cd5 ct5), sl5⟩) (c5 : PySem.W.codeIn K cd5 "wire_worths" = true) (k5 : PySem.W.keepIn K (.ref f5) = true)
    (a6 : PySem.W.nsIn K mainGlobals "every_row" = some (some (.ref f6))) (l6 : K.lookup f6 = some ⟨oc6, od6, .func (PySem.W.fnOf "every_row" "every_row" (defArgs s_every_row) (defBody s_every_row) (defScope s_every_row) .none kV6 dc6 pm6 an6 cd6 ct6), sl6⟩) (c6 : PySem.W.codeIn K cd6 "every_row" = true) (k6 : PySem.W.keepIn K (.ref f6) = true)
    (a7 : PySem.W.nsIn K mainGlobals "check_row" = some (some (.ref f7))) (l7 : K.lookup f7 = some ⟨oc7, od7, .func (PySem.W.fnOf "check_row" "check_row" (defArgs s_check_row) (defBody s_check_row) (defScope s_check_row) .none kV7 dc7 pm7 an7 cd7 ct7), sl7⟩) (c7 : PySem.W.codeIn K cd7 "check_row" = true) (k7 : PySem.W.keepIn K (.ref f7) = true)
    {T8 : Addr} {cT8 : Value} {dT8 : Option Addr} {kT8 : Tok} {nT8 : Nat} {sT8 : Array (Option Value)}
    (a8 : PySem.W.nsIn K mainGlobals "gate_worth" = some (some (.ref f8))) (l8 : K.lookup f8 = some ⟨oc8, od8, .func (PySem.W.fnOf "gate_worth" "gate_worth" (defArgs s_gate_worth) (defBody s_gate_worth) (defScope s_gate_worth) (.ref T8) kV8 dc8 pm8 an8 cd8 ct8), sl8⟩) (c8 : PySem.W.codeIn K cd8 "gate_worth" = true) (k8 : PySem.W.keepIn K (.ref f8) = true)
    (v8 : K.lookup T8 = some ⟨cT8, dT8, .seq #[.int 1 kT8] nT8, sT8⟩)
    (a9 : PySem.W.nsIn K mainGlobals "show_works" = some (some (.ref f9))) (l9 : K.lookup f9 = some ⟨oc9, od9, .func (PySem.W.fnOf "show_works" "show_works" (defArgs s_show_works) (defBody s_show_works) (defScope s_show_works) .none kV9 dc9 pm9 an9 cd9 ct9), sl9⟩) (c9 : PySem.W.codeIn K cd9 "show_works" = true) (k9 : PySem.W.keepIn K (.ref f9) = true)
    (a10 : PySem.W.nsIn K mainGlobals "show_fault" = some (some (.ref f10))) (l10 : K.lookup f10 = some ⟨oc10, od10, .func (PySem.W.fnOf "show_fault" "show_fault" (defArgs s_show_fault) (defBody s_show_fault) (defScope s_show_fault) .none kV10 dc10 pm10 an10 cd10 ct10), sl10⟩) (c10 : PySem.W.codeIn K cd10 "show_fault" = true) (k10 : PySem.W.keepIn K (.ref f10) = true)
    (a11 : PySem.W.nsIn K mainGlobals "read_works" = some (some (.ref f11))) (l11 : K.lookup f11 = some ⟨oc11, od11, .func (PySem.W.fnOf "read_works" "read_works" (defArgs s_read_works) (defBody s_read_works) (defScope s_read_works) .none kV11 dc11 pm11 an11 cd11 ct11), sl11⟩) (c11 : PySem.W.codeIn K cd11 "read_works" = true) (k11 : PySem.W.keepIn K (.ref f11) = true)
    (a12 : PySem.W.nsIn K mainGlobals "read_fault" = some (some (.ref f12))) (l12 : K.lookup f12 = some ⟨oc12, od12, .func (PySem.W.fnOf "read_fault" "read_fault" (defArgs s_read_fault) (defBody s_read_fault) (defScope s_read_fault) .none kV12 dc12 pm12 an12 cd12 ct12), sl12⟩) (c12 : PySem.W.codeIn K cd12 "read_fault" = true) (k12 : PySem.W.keepIn K (.ref f12) = true)
    (a13 : PySem.W.nsIn K mainGlobals "shown_row" = some (some (.ref f13))) (l13 : K.lookup f13 = some ⟨oc13, od13, .func (PySem.W.fnOf "shown_row" "shown_row" (defArgs s_shown_row) (defBody s_shown_row) (defScope s_shown_row) .none kV13 dc13 pm13 an13 cd13 ct13), sl13⟩) (c13 : PySem.W.codeIn K cd13 "shown_row" = true) (k13 : PySem.W.keepIn K (.ref f13) = true)
    (a14 : PySem.W.nsIn K mainGlobals "read_row" = some (some (.ref f14))) (l14 : K.lookup f14 = some ⟨oc14, od14, .func (PySem.W.fnOf "read_row" "read_row" (defArgs s_read_row) (defBody s_read_row) (defScope s_read_row) .none kV14 dc14 pm14 an14 cd14 ct14), sl14⟩) (c14 : PySem.W.codeIn K cd14 "read_row" = true) (k14 : PySem.W.keepIn K (.ref f14) = true)
    (a15 : PySem.W.nsIn K mainGlobals "read_number" = some (some (.ref f15))) (l15 : K.lookup f15 = some ⟨oc15, od15, .func (PySem.W.fnOf "read_number" "read_number" (defArgs s_read_number) (defBody s_read_number) (defScope s_read_number) .none kV15 dc15 pm15 an15 cd15 ct15), sl15⟩) (c15 : PySem.W.codeIn K cd15 "read_number" = true) (k15 : PySem.W.keepIn K (.ref f15) = true)
    (a16 : PySem.W.nsIn K mainGlobals "every_fault" = some (some (.ref f16))) (l16 : K.lookup f16 = some ⟨oc16, od16, .func (PySem.W.fnOf "every_fault" "every_fault" (defArgs s_every_fault) (defBody s_every_fault) (defScope s_every_fault) .none kV16 dc16 pm16 an16 cd16 ct16), sl16⟩) (c16 : PySem.W.codeIn K cd16 "every_fault" = true) (k16 : PySem.W.keepIn K (.ref f16) = true)
    (a17 : PySem.W.nsIn K mainGlobals "_law_stir" = some (some (.ref f17))) (l17 : K.lookup f17 = some ⟨oc17, od17, .func (PySem.W.fnOf "_law_stir" "_law_stir" (defArgs s_law_stir) (defBody s_law_stir) (defScope s_law_stir) .none kV17 dc17 pm17 an17 cd17 ct17), sl17⟩) (c17 : PySem.W.codeIn K cd17 "_law_stir" = true) (k17 : PySem.W.keepIn K (.ref f17) = true)
    (a18 : PySem.W.nsIn K mainGlobals "_law_deck" = some (some (.ref f18))) (l18 : K.lookup f18 = some ⟨oc18, od18, .func (PySem.W.fnOf "_law_deck" "_law_deck" (defArgs s_law_deck) (defBody s_law_deck) (defScope s_law_deck) .none kV18 dc18 pm18 an18 cd18 ct18), sl18⟩) (c18 : PySem.W.codeIn K cd18 "_law_deck" = true) (k18 : PySem.W.keepIn K (.ref f18) = true)
    (a19 : PySem.W.nsIn K mainGlobals "_law_take" = some (some (.ref f19))) (l19 : K.lookup f19 = some ⟨oc19, od19, .func (PySem.W.fnOf "_law_take" "_law_take" (defArgs s_law_take) (defBody s_law_take) (defScope s_law_take) .none kV19 dc19 pm19 an19 cd19 ct19), sl19⟩) (c19 : PySem.W.codeIn K cd19 "_law_take" = true) (k19 : PySem.W.keepIn K (.ref f19) = true)
    (a20 : PySem.W.nsIn K mainGlobals "_law_legs" = some (some (.ref f20))) (l20 : K.lookup f20 = some ⟨oc20, od20, .func (PySem.W.fnOf "_law_legs" "_law_legs" (defArgs s_law_legs) (defBody s_law_legs) (defScope s_law_legs) .none kV20 dc20 pm20 an20 cd20 ct20), sl20⟩) (c20 : PySem.W.codeIn K cd20 "_law_legs" = true) (k20 : PySem.W.keepIn K (.ref f20) = true)
    (a21 : PySem.W.nsIn K mainGlobals "_law_works" = some (some (.ref f21))) (l21 : K.lookup f21 = some ⟨oc21, od21, .func (PySem.W.fnOf "_law_works" "_law_works" (defArgs s_law_works) (defBody s_law_works) (defScope s_law_works) .none kV21 dc21 pm21 an21 cd21 ct21), sl21⟩) (c21 : PySem.W.codeIn K cd21 "_law_works" = true) (k21 : PySem.W.keepIn K (.ref f21) = true)
    (a22 : PySem.W.nsIn K mainGlobals "_law_others" = some (some (.ref f22))) (l22 : K.lookup f22 = some ⟨oc22, od22, .func (PySem.W.fnOf "_law_others" "_law_others" (defArgs s_law_others) (defBody s_law_others) (defScope s_law_others) .none kV22 dc22 pm22 an22 cd22 ct22), sl22⟩) (c22 : PySem.W.codeIn K cd22 "_law_others" = true) (k22 : PySem.W.keepIn K (.ref f22) = true)
    (a23 : PySem.W.nsIn K mainGlobals "_law_row_more" = some (some (.ref f23))) (l23 : K.lookup f23 = some ⟨oc23, od23, .func (PySem.W.fnOf "_law_row_more" "_law_row_more" (defArgs s_law_row_more) (defBody s_law_row_more) (defScope s_law_row_more) .none kV23 dc23 pm23 an23 cd23 ct23), sl23⟩) (c23 : PySem.W.codeIn K cd23 "_law_row_more" = true) (k23 : PySem.W.keepIn K (.ref f23) = true)
    (a24 : PySem.W.nsIn K mainGlobals "law" = some (some (.ref f24))) (l24 : K.lookup f24 = some ⟨oc24, od24, .func (PySem.W.fnOf "law" "law" (defArgs s_law) (defBody s_law) (defScope s_law) .none kV24 dc24 pm24 an24 cd24 ct24), sl24⟩) (c24 : PySem.W.codeIn K cd24 "law" = true) (k24 : PySem.W.keepIn K (.ref f24) = true)
    (z1 : PySem.W.nsIn K mainGlobals "all" = some none)
    (z2 : PySem.W.nsIn K mainGlobals "enumerate" = some none)
    (z3 : PySem.W.nsIn K mainGlobals "len" = some none)
    (z4 : PySem.W.nsIn K mainGlobals "list" = some none)
    (z5 : PySem.W.nsIn K mainGlobals "range" = some none)
    (z6 : PySem.W.nsIn K mainGlobals "str" = some none)
    (z7 : PySem.W.nsIn K mainGlobals "tuple" = some none)
    {c1_ : Addr} (ac1 : PySem.W.nsIn K mainGlobals "LEG_BOUNDS" = some (some (.ref c1_))) (kc1 : TabK K c1_ tab_LEG_BOUNDS)
    {s1_ : Tok} (as1 : PySem.W.nsIn K mainGlobals "FIGURES" = some (some (.str "0123456789" s1_)))
    : ∃ fd : FuncData, (∀ (s : Shared) (v : Value), BindsTo s fd ⟨[v], []⟩ [("script", v)]) ∧ ∀ base : Heap, K.In base → base.Ns mainGlobals mg → FnOk l.prog w K mg base CX0 5 fa fd ["script"] (sp_law K) := by
  have e := hfa.symm.trans (PySem.W.mg_of X G a24)
  cases e
  have F1 := fun_mk (st := s_works_of) l1 c1 k1
  have b1 := F1.binds (ps := ["inputs", "gates", "outputs"]) fun _ _ _ _ _ _ us hl => by obtain ⟨x0, x1, x2, e⟩ := lenV3 hl; subst e; rfl
  have F2 := fun_mk (st := s_check_gate) l2 c2 k2
  have b2 := F2.binds (ps := ["kind", "legs", "own_wire"]) fun _ _ _ _ _ _ us hl => by obtain ⟨x0, x1, x2, e⟩ := lenV3 hl; subst e; rfl
  have F3 := fun_mk (st := s_is_kind) l3 c3 k3
  have b3 := F3.binds (ps := ["word"]) fun _ _ _ _ _ _ us hl => by obtain ⟨x0, e⟩ := lenV1 hl; subst e; rfl
  have F4 := fun_mk (st := s_are_wires_below) l4 c4 k4
  have b4 := F4.binds (ps := ["numbers", "bound"]) fun _ _ _ _ _ _ us hl => by obtain ⟨x0, x1, e⟩ := lenV2 hl; subst e; rfl
  have F5 := fun_mk (st := s_wire_worths) l5 c5 k5
  have b5 := F5.binds (ps := ["works", "row"]) fun _ _ _ _ _ _ us hl => by obtain ⟨x0, x1, e⟩ := lenV2 hl; subst e; rfl
  have F6 := fun_mk (st := s_every_row) l6 c6 k6
  have b6 := F6.binds (ps := ["works"]) fun _ _ _ _ _ _ us hl => by obtain ⟨x0, e⟩ := lenV1 hl; subst e; rfl
  have F7 := fun_mk (st := s_check_row) l7 c7 k7
  have b7 := F7.binds (ps := ["works", "row"]) fun _ _ _ _ _ _ us hl => by obtain ⟨x0, x1, e⟩ := lenV2 hl; subst e; rfl
  have F8 := funD_mk (st := s_gate_worth) l8 c8 k8
  have b8 := F8.binds (ps := ["kind", "worths", "ones"]) (ds := []) fun _ _ _ _ _ _ s us X hl => match us, hl with | [_, _, _], _ => PySem.W.binds_K X rfl v8 rfl rfl rfl
  have e8 := F8.binds (ps := ["kind", "worths", "ones"]) (ds := [.int 1 kT8]) fun _ _ _ _ _ _ s us X hl => match us, (show us.length = 2 by rw [List.length_append] at hl; exact Nat.succ.inj hl) with | [_, _], _ => PySem.W.binds_K X rfl v8 rfl rfl rfl
  have F9 := fun_mk (st := s_show_works) l9 c9 k9
  have b9 := F9.binds (ps := ["works"]) fun _ _ _ _ _ _ us hl => by obtain ⟨x0, e⟩ := lenV1 hl; subst e; rfl
  have F10 := fun_mk (st := s_show_fault) l10 c10 k10
  have b10 := F10.binds (ps := ["fault"]) fun _ _ _ _ _ _ us hl => by obtain ⟨x0, e⟩ := lenV1 hl; subst e; rfl
  have F11 := fun_mk (st := s_read_works) l11 c11 k11
  have b11 := F11.binds (ps := ["text"]) fun _ _ _ _ _ _ us hl => by obtain ⟨x0, e⟩ := lenV1 hl; subst e; rfl
  have F12 := fun_mk (st := s_read_fault) l12 c12 k12
  have b12 := F12.binds (ps := ["text"]) fun _ _ _ _ _ _ us hl => by obtain ⟨x0, e⟩ := lenV1 hl; subst e; rfl
  have F13 := fun_mk (st := s_shown_row) l13 c13 k13
  have b13 := F13.binds (ps := ["word", "numbers"]) fun _ _ _ _ _ _ us hl => by obtain ⟨x0, x1, e⟩ := lenV2 hl; subst e; rfl
  have F14 := fun_mk (st := s_read_row) l14 c14 k14
  have b14 := F14.binds (ps := ["row"]) fun _ _ _ _ _ _ us hl => by obtain ⟨x0, e⟩ := lenV1 hl; subst e; rfl
  have F15 := fun_mk (st := s_read_number) l15 c15 k15
  have b15 := F15.binds (ps := ["text"]) fun _ _ _ _ _ _ us hl => by obtain ⟨x0, e⟩ := lenV1 hl; subst e; rfl
  have F16 := fun_mk (st := s_every_fault) l16 c16 k16
  have b16 := F16.binds (ps := ["works"]) fun _ _ _ _ _ _ us hl => by obtain ⟨x0, e⟩ := lenV1 hl; subst e; rfl
  have F17 := fun_mk (st := s_law_stir) l17 c17 k17
  have b17 := F17.binds (ps := ["cell", "k"]) fun _ _ _ _ _ _ us hl => by obtain ⟨x0, x1, e⟩ := lenV2 hl; subst e; rfl
  have F18 := fun_mk (st := s_law_deck) l18 c18 k18
  have b18 := F18.binds (ps := ["cell"]) fun _ _ _ _ _ _ us hl => by obtain ⟨x0, e⟩ := lenV1 hl; subst e; rfl
  have F19 := fun_mk (st := s_law_take) l19 c19 k19
  have b19 := F19.binds (ps := ["deck", "many"]) fun _ _ _ _ _ _ us hl => by obtain ⟨x0, x1, e⟩ := lenV2 hl; subst e; rfl
  have F20 := fun_mk (st := s_law_legs) l20 c20 k20
  have b20 := F20.binds (ps := ["deck", "kind"]) fun _ _ _ _ _ _ us hl => by obtain ⟨x0, x1, e⟩ := lenV2 hl; subst e; rfl
  have F21 := fun_mk (st := s_law_works) l21 c21 k21
  have b21 := F21.binds (ps := ["deck", "most"]) fun _ _ _ _ _ _ us hl => by obtain ⟨x0, x1, e⟩ := lenV2 hl; subst e; rfl
  have F22 := fun_mk (st := s_law_others) l22 c22 k22
  have b22 := F22.binds (ps := ["deck", "works"]) fun _ _ _ _ _ _ us hl => by obtain ⟨x0, x1, e⟩ := lenV2 hl; subst e; rfl
  have F23 := fun_mk (st := s_law_row_more) l23 c23 k23
  have b23 := F23.binds (ps := ["works", "other"]) fun _ _ _ _ _ _ us hl => by obtain ⟨x0, x1, e⟩ := lenV2 hl; subst e; rfl
  have F24 := fun_mk (st := s_law) l24 c24 k24
  have b24 := F24.binds (ps := ["script"]) fun _ _ _ _ _ _ us hl => by obtain ⟨x0, e⟩ := lenV1 hl; subst e; rfl
  refine ⟨PySem.W.fnOf "law" "law" (defArgs s_law) (defBody s_law) (defScope s_law) .none kV24 dc24 pm24 an24 cd24 ct24, fun s v => .of_eq rfl, fun base _ _ => ?_⟩
  exact ok_law (t := ⟨f1, _, f2, _, f3, _, f4, _, f5, _, f6, _, f7, _, f8, _, T8, kT8, f9, _, f10, _, f11, _, f12, _, f13, _, f14, _, f15, _, f16, _, f17, _, f18, _, f19, _, f20, _, f21, _, f22, _, f23, _, _, _, c1_, s1_⟩) ⟨⟨F1, b1, PySem.W.mg_of X G a1⟩, ⟨F2, b2, PySem.W.mg_of X G a2⟩, ⟨F3, b3, PySem.W.mg_of X G a3⟩, ⟨F4, b4, PySem.W.mg_of X G a4⟩, ⟨F5, b5, PySem.W.mg_of X G a5⟩, ⟨F6, b6, PySem.W.mg_of X G a6⟩, ⟨F7, b7, PySem.W.mg_of X G a7⟩, ⟨F8, b8, e8, PySem.W.mg_of X G a8⟩, ⟨F9, b9, PySem.W.mg_of X G a9⟩, ⟨F10, b10, PySem.W.mg_of X G a10⟩, ⟨F11, b11, PySem.W.mg_of X G a11⟩, ⟨F12, b12, PySem.W.mg_of X G a12⟩, ⟨F13, b13, PySem.W.mg_of X G a13⟩, ⟨F14, b14, PySem.W.mg_of X G a14⟩, ⟨F15, b15, PySem.W.mg_of X G a15⟩, ⟨F16, b16, PySem.W.mg_of X G a16⟩, ⟨F17, b17, PySem.W.mg_of X G a17⟩, ⟨F18, b18, PySem.W.mg_of X G a18⟩, ⟨F19, b19, PySem.W.mg_of X G a19⟩, ⟨F20, b20, PySem.W.mg_of X G a20⟩, ⟨F21, b21, PySem.W.mg_of X G a21⟩, ⟨F22, b22, PySem.W.mg_of X G a22⟩, ⟨F23, b23, PySem.W.mg_of X G a23⟩, ⟨F24, b24, PySem.W.mg_of X G a24⟩, PySem.W.mg_none_of X G z1, PySem.W.mg_none_of X G z2, PySem.W.mg_none_of X G z3, PySem.W.mg_none_of X G z4, PySem.W.mg_none_of X G z5, PySem.W.mg_none_of X G z6, PySem.W.mg_none_of X G z7, PySem.W.mg_of X G ac1, kc1, PySem.W.mg_of X G as1⟩
theorem walk {l : PySem.W.OpenLaw} {q : Program} {loose : List Str} {XP : (Str → Option Value) → Heap → Prop} {YP : World → Heap → Prop} {d : DefRec} {K : Params → PySem.W.Frag} (hn : l.most = some 63) (hdf : d.params.defaults = [])
    (hY : ∀ (w : World) (h : Heap), YP w h → (K w.params).In h)
    (F : ∀ (w : World) (mg : Str → Option Value) (fa : Addr) (h : Heap), (K w.params).In h → h.Ns mainGlobals mg → mg d.name = some (.ref fa) →
      ∃ fd : FuncData, (∀ (s : Shared) (u : Value), BindsTo s fd ⟨[u], []⟩ [("script", u)]) ∧ ∀ base : Heap, (K w.params).In base → base.Ns mainGlobals mg → FnOk l.prog w (K w.params) mg base CX0 5 fa fd ["script"] (sp_law (K w.params))) :
    PySem.W.WalkO q loose XP YP l.row.toRowW d [] (fun f vs => PySem.call f vs) :=
  L2.walk_of (n := 63) (k := 5) (x := "script") (CX := fun _ => CX0) (sp := fun w => sp_law (K w.params)) hn (by decide) hdf ⟨rfl, by decide, by decide⟩ hY F (fun _ _ a ns hl _ hS => ⟨a, ns, rfl, hS, hl, fun _ => rfl⟩) fun _ _ _ _ _ z => z
end My
open PySem PySem.W PyProof.Rows
set_option maxRecDepth 100000 in
set_option maxHeartbeats 0 in
theorem PySem.Challenge.cw_stuckwires_k64_whole_texts_tell_apart_holds : PySem.Challenge.rw_stuckwires_k64_whole_texts_tell_apart.Holds := by
  w_on; o_law; k_head; (case hw => w_witness2)
  k_fill
  refine My.walk (l := PySem.Challenge.rw_stuckwires_k64_whole_texts_tell_apart) rfl rfl (fun w h Y => PySem.W.kIn_of Y) ?F
  case F =>
    intro w mg fa h KX G hmg
    refine' My.all_mk KX G hmg ?a1 ?l1 ?c1 ?k1 ?a2 ?l2 ?c2 ?k2 ?a3 ?l3 ?c3 ?k3 ?a4 ?l4 ?c4 ?k4 ?a5 ?l5 ?c5 ?k5 ?a6 ?l6 ?c6 ?k6 ?a7 ?l7 ?c7 ?k7 ?a8 ?l8 ?c8 ?k8 ?v8 ?a9 ?l9 ?c9 ?k9 ?a10 ?l10 ?c10 ?k10 ?a11 ?l11 ?c11 ?k11 ?a12 ?l12 ?c12 ?k12 ?a13 ?l13 ?c13 ?k13 ?a14 ?l14 ?c14 ?k14 ?a15 ?l15 ?c15 ?k15 ?a16 ?l16 ?c16 ?k16 ?a17 ?l17 ?c17 ?k17 ?a18 ?l18 ?c18 ?k18 ?a19 ?l19 ?c19 ?k19 ?a20 ?l20 ?c20 ?k20 ?a21 ?l21 ?c21 ?k21 ?a22 ?l22 ?c22 ?k22 ?a23 ?l23 ?c23 ?k23 ?a24 ?l24 ?c24 ?k24 ?z1 ?z2 ?z3 ?z4 ?z5 ?z6 ?z7 ?ac1 ?kc1 ?as1
    (case a1 => k_is)
    (case l1 => k_is)
    (case c1 => k_is)
    (case k1 => k_is)
    (case a2 => k_is)
    (case l2 => k_is)
    (case c2 => k_is)
    (case k2 => k_is)
    (case a3 => k_is)
    (case l3 => k_is)
    (case c3 => k_is)
    (case k3 => k_is)
    (case a4 => k_is)
    (case l4 => k_is)
    (case c4 => k_is)
    (case k4 => k_is)
    (case a5 => k_is)
    (case l5 => k_is)
    (case c5 => k_is)
    (case k5 => k_is)
    (case a6 => k_is)
    (case l6 => k_is)
    (case c6 => k_is)
    (case k6 => k_is)
    (case a7 => k_is)
    (case l7 => k_is)
    (case c7 => k_is)
    (case k7 => k_is)
    (case a8 => k_is)
    (case l8 => k_is)
    (case c8 => k_is)
    (case k8 => k_is)
    (case v8 => k_is)
    (case a9 => k_is)
    (case l9 => k_is)
    (case c9 => k_is)
    (case k9 => k_is)
    (case a10 => k_is)
    (case l10 => k_is)
    (case c10 => k_is)
    (case k10 => k_is)
    (case a11 => k_is)
    (case l11 => k_is)
    (case c11 => k_is)
    (case k11 => k_is)
    (case a12 => k_is)
    (case l12 => k_is)
    (case c12 => k_is)
    (case k12 => k_is)
    (case a13 => k_is)
    (case l13 => k_is)
    (case c13 => k_is)
    (case k13 => k_is)
    (case a14 => k_is)
    (case l14 => k_is)
    (case c14 => k_is)
    (case k14 => k_is)
    (case a15 => k_is)
    (case l15 => k_is)
    (case c15 => k_is)
    (case k15 => k_is)
    (case a16 => k_is)
    (case l16 => k_is)
    (case c16 => k_is)
    (case k16 => k_is)
    (case a17 => k_is)
    (case l17 => k_is)
    (case c17 => k_is)
    (case k17 => k_is)
    (case a18 => k_is)
    (case l18 => k_is)
    (case c18 => k_is)
    (case k18 => k_is)
    (case a19 => k_is)
    (case l19 => k_is)
    (case c19 => k_is)
    (case k19 => k_is)
    (case a20 => k_is)
    (case l20 => k_is)
    (case c20 => k_is)
    (case k20 => k_is)
    (case a21 => k_is)
    (case l21 => k_is)
    (case c21 => k_is)
    (case k21 => k_is)
    (case a22 => k_is)
    (case l22 => k_is)
    (case c22 => k_is)
    (case k22 => k_is)
    (case a23 => k_is)
    (case l23 => k_is)
    (case c23 => k_is)
    (case k23 => k_is)
    (case a24 => k_is)
    (case l24 => k_is)
    (case c24 => k_is)
    (case k24 => k_is)
    (case z1 => k_is)
    (case z2 => k_is)
    (case z3 => k_is)
    (case z4 => k_is)
    (case z5 => k_is)
    (case z6 => k_is)
    (case z7 => k_is)
    (case ac1 => k_is)
    (case kc1 => (unfold L2.TabK; kernel_rfl))
    (case as1 => k_is)

