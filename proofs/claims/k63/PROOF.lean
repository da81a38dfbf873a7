import PyProof.Rows.All
import Wide.All
import OpenK.AllK
import Wide.FinOn
import Lean
import PyProof.EqAt
import PyProof.EqKinds
import PyProof.TupleCall
import PySem.Challenge.RW_stuckwires_k63_texts_of_no_fault
set_option Elab.async false
set_option linter.all false
set_option maxRecDepth 100000
set_option genSizeOf false
namespace L2
open PySem PySem.Spec PyProof.Rows

noncomputable abbrev Key := Sum Int Str
noncomputable def keyIs : Key → Value → Bool
  | .inl k, v => Value.isInt k v
  | .inr x, v => Value.isStrOf x v
noncomputable def keyH (w : World) : Key → Int
  | .inl k => hashInt k
  | .inr x => hashStr w x
theorem keyIs_shape : ∀ {k : Key} {v : Value}, keyIs k v = true → (∃ i t, k = Sum.inl i ∧ v = Value.int i t) ∨ (∃ x t, k = Sum.inr x ∧ v = Value.str x t)
  | .inl i, v, h => by
    obtain ⟨t, e⟩ := Value.isInt_shape (k := i) (v := v) h
    exact .inl ⟨i, t, rfl, e⟩
  | .inr x, v, h => by
    obtain ⟨t, e⟩ := Value.isStrOf_shape (x := x) (v := v) h
    exact .inr ⟨x, t, rfl, e⟩
theorem key_ll (a b : Int) : decide ((Sum.inl a : Key) = Sum.inl b) = (a == b) := by
  by_cases e : a = b
  · subst e; simp
  · have h : ¬ (Sum.inl a : Key) = Sum.inl b := fun q => e (Sum.inl.inj q)
    rw [decide_eq_false h]
    exact (beq_eq_false_iff_ne.mpr e).symm
theorem key_rr (a b : Str) : decide ((Sum.inr a : Key) = Sum.inr b) = decide (a = b) := by
  by_cases e : a = b
  · subst e; simp
  · have h : ¬ (Sum.inr a : Key) = Sum.inr b := fun q => e (Sum.inr.inj q)
    rw [decide_eq_false h, decide_eq_false e]
theorem key_lr (a : Int) (b : Str) : decide ((Sum.inl a : Key) = Sum.inr b) = false := decide_eq_false (fun q => nomatch q)
theorem key_rl (a : Str) (b : Int) : decide ((Sum.inr a : Key) = Sum.inl b) = false := decide_eq_false (fun q => nomatch q)

noncomputable def mixKind (prog : Program) (w : World) : PySem.KeyKind prog w Key where
  is := keyIs
  hash := keyH w
  inj := fun v a b ha hb => by
    rcases keyIs_shape ha with ⟨i, t, rfl, rfl⟩ | ⟨x, t, rfl, rfl⟩
    · rcases keyIs_shape hb with ⟨j, u, rfl, e⟩ | ⟨y, u, rfl, e⟩
      · injection e with e1 _; rw [e1]
      · exact nomatch e
    · rcases keyIs_shape hb with ⟨j, u, rfl, e⟩ | ⟨y, u, rfl, e⟩
      · exact nomatch e
      · injection e with e1 _; rw [e1]
  byValue := fun k v h => by
    rcases keyIs_shape h with ⟨i, t, rfl, rfl⟩ | ⟨x, t, rfl, rfl⟩ <;> rfl
  pyHash := fun hv h => by
    rcases keyIs_shape hv with ⟨i, t, rfl, rfl⟩ | ⟨x, t, rfl, rfl⟩
    · exact wpAny_pyHash_int h
    · exact wpAny_pyHash_str h
  eqBool := fun hu hv h => by
    rcases keyIs_shape hu with ⟨i, t, rfl, rfl⟩ | ⟨x, t, rfl, rfl⟩
    · rcases keyIs_shape hv with ⟨j, u, rfl, rfl⟩ | ⟨y, u, rfl, rfl⟩
      · rw [key_ll] at h; exact wpAny_eqBool_int h
      · rw [key_lr] at h; exact SeqAt.EqAt.int_str i t y u _ _ _ _ h
    · rcases keyIs_shape hv with ⟨j, u, rfl, rfl⟩ | ⟨y, u, rfl, rfl⟩
      · rw [key_rl] at h; exact SeqAt.EqAt.str_int x t j u _ _ _ _ h
      · rw [key_rr] at h; exact wpAny_eqBool_str h
  «strs» := fun k x t v h => by
    rcases keyIs_shape h with ⟨i, u, rfl, e⟩ | ⟨y, u, rfl, e⟩
    · exact nomatch e
    · injection e with e1 _
      subst e1
      cases v <;> rfl

end L2

namespace L2
open PySem PySem.Spec PyProof.Rows

inductive V where
  | non | bl (b : Bool) | int (i : Int) | str (x : Str) | byt (b : Array UInt8) | flt (b : UInt64) | ref (a : Addr) | ty (n : String)
  deriving DecidableEq

noncomputable def RelV : V → Value → Prop
  | .non, u => u = Value.none
  | .bl b, u => u = Value.bool b
  | .int i, u => ∃ t, u = Value.int i t
  | .str x, u => ∃ t, u = Value.str x t
  | .byt b, u => ∃ t, u = Value.bytes b t
  | .flt b, u => ∃ t, u = Value.float b t
  | .ref a, u => u = Value.ref a
  | .ty n, u => u = Value.type n

noncomputable abbrev Vals : List V → List Value → Prop := Paired RelV
theorem Vals.length {xs : List V} {us : List Value} (r : Vals xs us) : xs.length = us.length := Paired.length r
theorem Vals.get : ∀ {xs : List V} {us : List Value} {i : Nat} {x : V}, Vals xs us → xs[i]? = some x → ∃ u, us[i]? = some u ∧ RelV x u
  | _, _, _, _, .nil, e => by simp at e
  | _, _, 0, _, .cons r _, e => by simp at e; subst e; exact ⟨_, rfl, r⟩
  | _, _, i + 1, x, .cons _ t, e => by
    obtain ⟨u, h1, h2⟩ := Vals.get (i := i) (x := x) t (by simpa using e)
    exact ⟨u, by simpa using h1, h2⟩
theorem Vals.set {x : V} {u : Value} (r : RelV x u) : ∀ {xs : List V} {us : List Value} (i : Nat), Vals xs us → Vals (xs.set i x) (us.set i u)
  | _, _, _, .nil => .nil
  | _, _, 0, .cons _ t => .cons r t
  | _, _, i + 1, .cons q t => .cons q (Vals.set r i t)
theorem Vals.append : ∀ {xs ys : List V} {us ws : List Value}, Vals xs us → Vals ys ws → Vals (xs ++ ys) (us ++ ws)
  | _, _, _, _, .nil, s => s
  | _, _, _, _, .cons r t, s => .cons r (Vals.append t s)
theorem Vals.take : ∀ {xs : List V} {us : List Value} (n : Nat), Vals xs us → Vals (xs.take n) (us.take n)
  | _, _, 0, _ => .nil
  | _, _, _ + 1, .nil => .nil
  | _, _, n + 1, .cons r t => .cons r (Vals.take n t)
theorem Vals.drop : ∀ {xs : List V} {us : List Value} (n : Nat), Vals xs us → Vals (xs.drop n) (us.drop n)
  | _, _, 0, r => r
  | _, _, _ + 1, .nil => .nil
  | _, _, n + 1, .cons _ t => Vals.drop n t
noncomputable def RelO : Option V → Option Value → Prop
  | some v, some u => RelV v u
  | none, none => True
  | _, _ => False
noncomputable def KV {κ : Type} : List (κ × V) → List (κ × Value) → Prop := Paired fun (p : κ × V) (q : κ × Value) => p.1 = q.1 ∧ RelV p.2 q.2

noncomputable def kV : Key → V
  | .inl i => .int i
  | .inr x => .str x

inductive HO where
    | lst (xs : List V)
    | tup (xs : List V)
    | dK (kvs : List (Key × V)) | dT (kvs : List (List Key × V))
    | set (S : Int → Bool) (n : Nat)
    | ins (C dx : Addr) (fs : List (Str × V))
    | own (x : Addr)
    | xd (fs : List (Str × V))
    | met (f x : Addr)
    | rng (lo hi : Int)
    | frz (o : Obj) (u : HO)
    | tbl (ps : Array Value)
    | ext (φ : Heap → Prop)

noncomputable abbrev Hp := Addr → Option HO
noncomputable def upd (H : Hp) (a : Addr) (o : HO) : Hp := fun b => if b = a then some o else H b
theorem upd_same {H : Hp} {a : Addr} {o : HO} : upd H a o a = some o := by unfold upd; rw [if_pos rfl]
theorem upd_ne {H : Hp} {a b : Addr} {o : HO} (h : b ≠ a) : upd H a o b = H b := by unfold upd; rw [if_neg h]
theorem upd_upd {H : Hp} {a : Addr} {o u : HO} : upd (upd H a o) a u = upd H a u := by
  funext b; unfold upd; split <;> rfl
theorem ne_of_none {H : Hp} {a b : Addr} {o : HO} (h : H a = some o) (h' : H b = none) : a ≠ b := by
  intro e; subst e; rw [h] at h'; cases h'

section
variable (P : Program) (w : World)
noncomputable def ObjOk (H : Hp) (h : Heap) (a : Addr) : HO → Prop
  | .lst xs => xs.length ≤ sizeLine ∧ ∃ (its : List Value) (n : Nat), Vals xs its ∧ h.get? a = some { cls := .type "list", data := .seq its.toArray n }
  | .tup xs => xs.length ≤ sizeLine ∧ ∃ its : List Value, Vals xs its ∧ IsTup h a its.toArray
  | .dK kvs => kvs.length ≤ sizeLine ∧ (a == sysModules) = false ∧ ∃ vs, KV kvs vs ∧ h.DictOf (mixKind P w) a vs
  | .dT kvs => kvs.length ≤ sizeLine ∧ (a == sysModules) = false ∧ ∃ xs : List (List Key × Addr × Value),
      Paired (fun (p : List Key × V) (q : List Key × Addr × Value) => p.1 = q.1 ∧ H q.2.1 = some (.tup (p.1.map kV)) ∧ RelV p.2 q.2.2) kvs xs ∧
      ∃ o es ep, h.get? a = some o ∧ o.ExactDict ∧ o.data = .dict es ep ∧ es.toList = xs.map (entryOfKey (tupleKind (mixKind P w))) ∧ (xs.map (·.1)).Nodup
  | .set S n => h.SetOf (intKind P w) a S n
  | .ins C dx fs => H dx = some (.own a) ∧ fs.length ≤ 1000 ∧ dx ≠ a ∧ h.get? a = some (PySem.W.instObj C dx) ∧
      ∃ mA, h.Ns1 dx mA ∧ (∀ f, RelO (fs.lookup f) (mA f)) ∧ PySem.Within mA (fs.map (·.1))
  | .own _ => ∃ o, h.get? a = some o
  | .xd fs => ∃ mA, h.Ns1 a mA ∧ ∀ f, RelO (fs.lookup f) (mA f)
  | .rng lo hi => ∃ t u v, h.get? a = some { cls := .type "range", data := .fields #[.int lo t, .int hi u, .int 1 v] }
  | .frz o u => h.get? a = some o ∧ ObjOk H h a u
  | .tbl ps => h.get? a = some { cls := .none, data := .fields ps }
  | .met f x => h.get? a = some (PySem.W.methodObj (.ref f) (.ref x))
  | .ext φ => φ h ∧ (∃ o, h.get? a = some o) ∧ ∀ h1 h2 : Heap, φ h1 → (∀ o, h1.get? a = some o → h2.get? a = some o) → φ h2
noncomputable def HOk (H : Hp) (h : Heap) : Prop := ∀ a o, H a = some o → ObjOk P w H h a o
end

section
variable {P : Program} {w : World} {H H' : Hp} {h h' : Heap} {a : Addr} {o : HO}
theorem ObjOk.lt (x : ObjOk P w H h a o) : a < h.objs.size := by
  cases o with
  | lst xs => obtain ⟨_, _, _, _, e⟩ := x; exact Heap.lt_size e
  | tup xs => obtain ⟨_, _, _, p⟩ := x; exact p.lt
  | dK kvs => obtain ⟨_, _, _, _, o, _, _, e, _⟩ := x; exact Heap.lt_size e
  | dT kvs => obtain ⟨_, _, _, _, o, _, _, e, _⟩ := x; exact Heap.lt_size e
  | set S n => obtain ⟨o, _, _, _, e, _⟩ := x; exact Heap.lt_size e
  | ins C dx fs => obtain ⟨_, _, _, e, _⟩ := x; exact Heap.lt_size e
  | own y => obtain ⟨_, e⟩ := x; exact Heap.lt_size e
  | xd fs => obtain ⟨_, ⟨_, _, _, e, _⟩, _⟩ := x; exact Heap.lt_size e
  | rng lo hi => obtain ⟨_, _, _, e⟩ := x; exact Heap.lt_size e
  | frz ob u => obtain ⟨e, _⟩ := x; exact Heap.lt_size e
  | tbl ps => exact Heap.lt_size (show h.get? a = some _ from x)
  | met f y => exact Heap.lt_size (show h.get? a = some _ from x)
  | ext φ => obtain ⟨_, ⟨_, e⟩, _⟩ := x; exact Heap.lt_size e
theorem Paired.mapP {α β : Type} {F G : α → β → Prop} : ∀ {l₁ : List α} {l₂ : List β}, Paired F l₁ l₂ → (∀ a b, F a b → G a b) → Paired G l₁ l₂
  | _, _, .nil, _ => .nil
  | _, _, .cons r t, f => .cons (f _ _ r) (Paired.mapP t f)
theorem ObjOk.stay (x : ObjOk P w H h a o) (k : ∀ b u, (b = a ∨ H b = some (.own a)) → h.get? b = some u → h'.get? b = some u)
    (ho : ∀ b, H b = some (.own a) → H' b = some (.own a)) (ht : ∀ b xs, H b = some (.tup xs) → H' b = some (.tup xs)) : ObjOk P w H' h' a o := by
  induction o with
  | lst xs => obtain ⟨z, its, n, r, e⟩ := x; exact ⟨z, its, n, r, k _ _ (.inl rfl) e⟩
  | tup xs => obtain ⟨z, its, r, ob, e, c⟩ := x; exact ⟨z, its, r, ob, k _ _ (.inl rfl) e, c⟩
  | dK kvs => obtain ⟨z, y, vs, r, ob, es, ep, e, c⟩ := x; exact ⟨z, y, vs, r, ob, es, ep, k _ _ (.inl rfl) e, c⟩
  | dT kvs =>
    obtain ⟨z, y, xs, r, ob, es, ep, e, c⟩ := x
    exact ⟨z, y, xs, Paired.mapP r fun p q z => ⟨z.1, ht _ _ z.2.1, z.2.2⟩, ob, es, ep, k _ _ (.inl rfl) e, c⟩
  | set S n => obtain ⟨ob, es, ep, t, e, c⟩ := x; exact ⟨ob, es, ep, t, k _ _ (.inl rfl) e, c⟩
  | ins C dx fs =>
    obtain ⟨d, z, ne, e, mA, ⟨od, es, ep, e2, c⟩, r⟩ := x
    exact ⟨ho _ d, z, ne, k _ _ (.inl rfl) e, mA, ⟨od, es, ep, k _ _ (.inr d) e2, c⟩, r⟩
  | own y => obtain ⟨ob, e⟩ := x; exact ⟨ob, k _ _ (.inl rfl) e⟩
  | xd fs => obtain ⟨mA, ⟨od, es, ep, e, c⟩, r⟩ := x; exact ⟨mA, ⟨od, es, ep, k _ _ (.inl rfl) e, c⟩, r⟩
  | rng lo hi => obtain ⟨t, u, v, e⟩ := x; exact ⟨t, u, v, k _ _ (.inl rfl) e⟩
  | frz ob u ih => obtain ⟨e, q⟩ := x; exact ⟨k _ _ (.inl rfl) e, ih q⟩
  | tbl ps =>
    have e : h.get? a = some { cls := .none, data := .fields ps } := x
    show h'.get? a = some { cls := .none, data := .fields ps }
    exact k a _ (.inl rfl) e
  | met f y =>
    have e : h.get? a = some (PySem.W.methodObj (.ref f) (.ref y)) := x
    show h'.get? a = some (PySem.W.methodObj (.ref f) (.ref y))
    exact k a _ (.inl rfl) e
  | ext φ => obtain ⟨p, ⟨o, e⟩, st⟩ := x; exact ⟨st _ _ p fun o q => k _ _ (.inl rfl) q, ⟨o, k _ _ (.inl rfl) e⟩, st⟩
theorem HOk.lt (x : HOk P w H h) (e : H a = some o) : a < h.objs.size := (x a o e).lt
theorem HOk.fresh (x : HOk P w H h) (e : h.objs.size ≤ a) : H a = none := by
  cases q : H a with
  | none => rfl
  | some u => exact absurd (Nat.lt_of_lt_of_le (x.lt q) e) (Nat.lt_irrefl _)
theorem HOk.kept (x : HOk P w H h) (k : ∀ b u, h.get? b = some u → h'.get? b = some u) : HOk P w H h' := fun a o e =>
  (x a o e).stay (fun b u _ q => k b u q) (fun _ q => q) fun _ _ q => q
theorem HOk.laid (x : HOk P w H h) (k : ∀ b u, h.get? b = some u → h'.get? b = some u) (hp : h.objs.size ≤ a) (new : ObjOk P w (upd H a o) h' a o) : HOk P w (upd H a o) h' := fun b u e => by
  have hn := x.fresh hp
  by_cases hb : b = a
  · subst hb; rw [upd_same] at e; cases e; exact new
  · rw [upd_ne hb] at e
    exact (x b u e).stay (fun c v _ q => k c v q) (fun c q => by rw [upd_ne (ne_of_none q hn)]; exact q) fun c xs q => by rw [upd_ne (ne_of_none q hn)]; exact q
end

noncomputable def Rd (H : Hp) (a : Addr) (u : HO) : Prop := H a = some u ∨ ∃ o, H a = some (.frz o u)
theorem Rd.of {H : Hp} {a : Addr} {u : HO} (h : H a = some u) : Rd H a u := .inl h
theorem Rd.ok {P : Program} {w : World} {H : Hp} {h : Heap} {a : Addr} {u : HO} (r : Rd H a u) (x : HOk P w H h) : ObjOk P w H h a u := by
  rcases r with r | ⟨o, r⟩
  · exact x a u r
  · obtain ⟨_, q⟩ := x a _ r
    exact q
noncomputable def Mut : Option HO → Prop
  | some (.lst _) => True
  | some (.dK _) => True
  | some (.dT _) => True
  | some (.set _ _) => True
  | some (.ins _ _ _) => True
  | some (.ext _) => True
  | _ => False
section
variable {P : Program} {w : World} {H : Hp} {h h' : Heap} {x e : Addr} {o' : HO}
theorem HOk.write (ok : HOk P w H h) (mu : Mut (H x)) (he : e = x ∨ H e = some (.own x)) (k : ∀ b u, b ≠ e → h.get? b = some u → h'.get? b = some u) (heo : ∃ u, h'.get? e = some u)
    (new : ObjOk P w (upd H x o') h' x o') : HOk P w (upd H x o') h' := fun b u q => by
  have nown : ∀ c y, H c = some (.own y) → c ≠ x := fun c y r z => by subst z; rw [r] at mu; exact mu
  have ntup : ∀ c xs, H c = some (.tup xs) → c ≠ x := fun c xs r z => by subst z; rw [r] at mu; exact mu
  by_cases hb : b = x
  · subst hb; rw [upd_same] at q; cases q; exact new
  · rw [upd_ne hb] at q
    by_cases hbe : b = e
    · have q' : H b = some (.own x) := by
        rcases he with z | z
        · exact absurd (hbe.trans z) hb
        · rw [hbe]; exact z
      rw [q] at q'; cases q'
      obtain ⟨v, hv⟩ := heo
      exact ⟨v, by rw [hbe]; exact hv⟩
    · refine (ok b u q).stay (fun c v hc r => k c v ?_ r) (fun c r => by rw [upd_ne (nown c b r)]; exact r) fun c xs r => by rw [upd_ne (ntup c xs r)]; exact r
      rcases hc with rfl | hc
      · exact hbe
      · rintro rfl
        rcases he with z | z
        · exact nown c b hc z
        · rw [hc] at z; cases z; exact hb rfl
end

structure Un (fs ex : List Addr) (H H' : Hp) (h h' : Heap) : Prop where
  keep : ∀ b o, h.get? b = some o → H b = none → b ∉ fs → b ∉ ex → h'.get? b = some o
  slot : ∀ b o, h.get? b = some o → H b = none → b ∈ fs → b ∉ ex → ∃ sl, h'.get? b = some { o with slots := sl }
  free : ∀ b o, h.get? b = some o → H b = none → b ∉ ex → H' b = none
  there : ∀ b o, h.get? b = some o → b ∉ ex → ∃ o', h'.get? b = some o'
  tups : ∀ b xs, H b = some (.tup xs) → H' b = some (.tup xs)
  frzs : ∀ b o u, H b = some (.frz o u) → H' b = some (.frz o u)
  tbls : ∀ b ps, H b = some (.tbl ps) → ∃ more, H' b = some (.tbl (ps ++ more))
section
variable {fs fs' ex ex' : List Addr} {H H1 H2 : Hp} {h h1 h2 h' : Heap} {a x e : Addr} {o : HO}
theorem Un.any (u : Un fs ex H H1 h h1) {b : Addr} {ob : Obj} (q : h.get? b = some ob) (n : H b = none) (hx : b ∉ ex) : ∃ sl, h1.get? b = some { ob with slots := sl } := by
  by_cases hb : b ∈ fs
  · exact u.slot b ob q n hb hx
  · exact ⟨ob.slots, u.keep b ob q n hb hx⟩
theorem Un.trans (a : Un fs ex H H1 h h1) (b : Un fs ex H1 H2 h1 h2) : Un fs ex H H2 h h2 where
  keep := fun c ob q n hc hx => b.keep c ob (a.keep c ob q n hc hx) (a.free c ob q n hx) hc hx
  slot := fun c ob q n hc hx => by
    obtain ⟨sl, e1⟩ := a.slot c ob q n hc hx
    obtain ⟨sl', e2⟩ := b.slot c _ e1 (a.free c ob q n hx) hc hx
    exact ⟨sl', e2⟩
  free := fun c ob q n hx => by
    obtain ⟨o', e1⟩ := a.there c ob q hx
    exact b.free c o' e1 (a.free c ob q n hx) hx
  there := fun c ob q hx => by
    obtain ⟨o', e1⟩ := a.there c ob q hx
    exact b.there c o' e1 hx
  tups := fun c xs q => b.tups c xs (a.tups c xs q)
  frzs := fun c ob xs q => b.frzs c ob xs (a.frzs c ob xs q)
  tbls := fun c ps q => by
    obtain ⟨m1, e1⟩ := a.tbls c ps q
    obtain ⟨m2, e2⟩ := b.tbls c _ e1
    exact ⟨m1 ++ m2, by rw [e2, Array.append_assoc]⟩
theorem Un.kept (k : ∀ b u, h.get? b = some u → h'.get? b = some u) : Un fs ex H H h h' :=
  ⟨fun b ob q _ _ _ => k b ob q, fun b ob q _ _ _ => ⟨ob.slots, k b ob q⟩, fun _ _ _ n _ => n, fun b ob q _ => ⟨ob, k b ob q⟩, fun _ _ q => q, fun _ _ _ q => q, fun _ ps q => ⟨#[], by rw [q]; simp⟩⟩
theorem Un.refl : Un fs ex H H h h := Un.kept fun _ _ q => q
theorem Un.laid (k : ∀ b u, h.get? b = some u → h'.get? b = some u) (hp : h.objs.size ≤ a) (hn : H a = none) : Un fs ex H (upd H a o) h h' where
  keep := fun b u q _ _ _ => k b u q
  slot := fun b u q _ _ _ => ⟨u.slots, k b u q⟩
  free := fun b u q n _ => by rw [upd_ne (Nat.ne_of_lt (Nat.lt_of_lt_of_le (Heap.lt_size q) hp))]; exact n
  there := fun b u q _ => ⟨u, k b u q⟩
  tups := fun b xs q => by rw [upd_ne (ne_of_none q hn)]; exact q
  frzs := fun b u xs q => by rw [upd_ne (ne_of_none q hn)]; exact q
  tbls := fun b ps q => ⟨#[], by rw [upd_ne (ne_of_none q hn), q]; simp⟩
theorem Un.write (mu : Mut (H x)) (he : e = x ∨ H e = some (.own x)) (k : ∀ b u, b ≠ e → h.get? b = some u → h'.get? b = some u) (heo : ∃ u, h'.get? e = some u) : Un fs ex H (upd H x o) h h' := by
  have hx : ∀ b, H b = none → b ≠ x := fun b n z => by subst z; rw [n] at mu; exact mu
  have hb : ∀ b, H b = none → b ≠ e := fun b n z => by
    subst z
    rcases he with r | r
    · exact hx b n r
    · rw [n] at r; cases r
  have hm : ∀ b u, H b = some u → ¬ Mut (some u) → b ≠ x := fun b u q nm z => by subst z; rw [q] at mu; exact nm mu
  refine ⟨fun b u q n _ _ => k b u (hb b n) q, fun b u q n _ _ => ⟨u.slots, k b u (hb b n) q⟩, fun b u q n _ => by rw [upd_ne (hx b n)]; exact n, fun b u q _ => ?_,
    fun b xs q => by rw [upd_ne (hm b _ q fun z => z)]; exact q, fun b u xs q => by rw [upd_ne (hm b _ q fun z => z)]; exact q, fun b ps q => ⟨#[], by rw [upd_ne (hm b _ q fun z => z), q]; simp⟩⟩
  by_cases hbe : b = e
  · subst hbe; exact heo
  · exact ⟨u, k b u hbe q⟩
theorem Un.mono (u : Un fs ex H H1 h h1) (hs : ∀ b ∈ fs, b ∈ fs') (hx : ∀ b ∈ ex, b ∈ ex') : Un fs' ex' H H1 h h1 :=
  ⟨fun b ob q n hb he => u.keep b ob q n (fun z => hb (hs b z)) fun z => he (hx b z), fun _ _ q n _ he => u.any q n fun z => he (hx _ z), fun b ob q n he => u.free b ob q n fun z => he (hx b z), fun b ob q he => u.there b ob q fun z => he (hx b z), u.tups, u.frzs, u.tbls⟩
end

noncomputable def trk (h : Heap) (H : Hp) : List Addr := (List.range h.objs.size).filter fun a => (H a).isSome
noncomputable def hidT (h : Heap) (H : Hp) : Heap := PySem.W.hideAll h (trk h H)
theorem hidT_size (h : Heap) (H : Hp) : (hidT h H).objs.size = h.objs.size := PySem.W.hideAll_size _ _
theorem hidT_get {h : Heap} {H : Hp} {b : Addr} {o : Obj} (e : h.get? b = some o) (n : H b = none) : (hidT h H).get? b = some o :=
  PySem.W.hideAll_get _ e fun hm => by
    have q : (H b).isSome = true := (List.mem_filter.mp hm).2
    rw [n] at q; simp at q
theorem of_hidT {h : Heap} {H : Hp} {b : Addr} {o : Obj} (e : (hidT h H).get? b = some o) : h.get? b = some o ∧ H b = none := by
  have e' : h.get? b = some o := PySem.W.of_hideAll (trk h H) e
  refine ⟨e', ?_⟩
  cases q : H b with
  | none => rfl
  | some x =>
    have hm : b ∈ trk h H := List.mem_filter.mpr ⟨List.mem_range.mpr (Heap.lt_size e'), by simp [q]⟩
    have z : (hidT h H).get? b = none := PySem.W.hideAll_none (trk h H) hm
    rw [z] at e; cases e

noncomputable def allNews (g h : Heap) (L : Addr) : List (Addr × Obj) := (List.range h.objs.size).filterMap fun a => if a = L ∨ (g.get? a).isSome = true then none else (h.get? a).map fun o => (a, o)
noncomputable def rest (g h : Heap) (L d : Addr) : List (Addr × Obj) := (allNews g h L).filter fun p => decide (p.1 ≠ d)
end L2

namespace L2
open PySem PySem.Spec PyProof.Rows

structure Mod (K : PySem.W.Frag) (mg : Str → Option Value) (base : Heap) : Prop where
  kin : K.In base
  glob : base.Ns mainGlobals mg
  blt : ∃ mb, base.Ns builtinsNs mb ∧ ∀ x : Str, x ≠ "__name__" → mb x = bootBuiltins x
  nolimit : base.NoLimit

structure Cx where
  prog : Program
  w : World
  K : PySem.W.Frag
  mg : Str → Option Value
  base : Heap
  A : Around
  N : List Str
  s₀ : Shared
  H₀ : Hp
  env : Env
  outer : List Env
  stack : List Env
  ex : List Addr
  fn : Str → Bool
  calm : Bool
  pn : List (Addr × Obj)
  xe : Value → Shared → Prop
noncomputable def frs (l : List Env) : List Addr := l.filterMap (·.frame)
noncomputable abbrev Cx.fs (X : Cx) : List Addr := frs X.outer

noncomputable def Vis (sc : Scope) (x : Str) : Prop := sc.names.lookup x = some .local ∨ sc.names.lookup x = some .cell ∨ sc.names.lookup x = some .free
noncomputable def Loc (sc : Scope) (x : Str) : Prop := sc.names.lookup x = some .local ∨ sc.names.lookup x = some .cell
noncomputable def Look (env : Env) (h : Heap) (m : Str → Option Value) (x : Str) (u : Value) : Prop :=
  (env.kindOf x = some .local ∧ m x = some u) ∨ ((env.kindOf x = some .cell ∨ env.kindOf x = some .free) ∧ ∃ c, env.cells.lookup x = some c ∧ h.IsCell c (some u))

structure Cx.Ok (X : Cx) : Prop where
  mod : Mod X.K X.mg X.base
  kind : X.env.scope.kind = .function
  glob : X.env.globals = mainGlobals
  blt : X.env.builtins = builtinsNs
  above : X.s₀.heap.objs.size ≤ X.env.locals
  inj : ∀ x y c, X.env.cells.lookup x = some c → X.env.cells.lookup y = some c → x = y
  has : ∀ x, (X.env.kindOf x = some .cell ∨ X.env.kindOf x = some .free) → ∃ c, X.env.cells.lookup x = some c
  cab : ∀ x c, X.fn x = true → X.env.cells.lookup x = some c → X.s₀.heap.objs.size ≤ c
  hd : X.calm = true → X.A.handled = none
  frames : X.A.frames = some X.stack
  stk : X.stack = X.outer ∨ (X.stack = X.env :: X.outer ∧ X.env.frame = some X.env.locals)
  exf : ∀ b ∈ X.ex, b ≠ X.env.locals ∧ ∀ x c, X.env.cells.lookup x = some c → c ≠ b
  bs : ∀ b o, X.base.get? b = some o → X.s₀.heap.get? b = some o ∧ X.H₀ b = none
  bsz : X.base.objs.size ≤ X.s₀.heap.objs.size
  noex : ∀ b o, X.base.get? b = some o → b ∉ X.ex
  exfs : ∀ b ∈ X.ex, b ∉ X.fs
  funs : X.s₀.heap.FunFrames X.base X.outer
  frf : ∀ b ∈ X.fs, X.H₀ b = none

structure Inv (X : Cx) (pins : List (Addr × Obj)) (σ : List (Option V)) (H : Hp) (s : Shared) : Prop where
  ok : X.Ok
  os : s.os = X.s₀.os
  bare : AllBare s.gens
  base : Un X.fs X.ex X.H₀ H X.s₀.heap s.heap
  loc : ∃ m, s.heap.Ns X.env.locals m ∧ ∀ (i : Nat) (x : Str) (v : V), X.N[i]? = some x → σ[i]? = some (some v) → Vis X.env.scope x → ∃ u, RelV v u ∧ Look X.env s.heap m x u
  cell : ∀ x c, X.env.cells.lookup x = some c → ∃ v, s.heap.IsCell c v
  free : H X.env.locals = none
  freeC : ∀ x c, X.env.cells.lookup x = some c → H c = none
  pin : ∀ p ∈ X.pn ++ pins, s.heap.get? p.1 = some p.2 ∧ H p.1 = none ∧ p.1 ≠ X.env.locals ∧ p.1 ∉ X.fs ∧ ∀ v, p.2.data ≠ .cell v
  hok : HOk X.prog X.w H s.heap
  len : σ.length = X.N.length

section
variable {X : Cx} {pins : List (Addr × Obj)} {σ : List (Option V)} {H H' : Hp} {s : Shared} {h' : Heap}

theorem Cx.Ok.nofr (ok : X.Ok) {b : Addr} {o : Obj} (e : X.base.get? b = some o) : b ∉ X.fs := fun hb => by
  have := (ok.funs.mem hb).1
  rw [e] at this; cases this
theorem Inv.bs (I : Inv X pins σ H s) : ∀ b o, X.base.get? b = some o → s.heap.get? b = some o ∧ H b = none := fun b o e =>
  ⟨I.base.keep b o (I.ok.bs b o e).1 (I.ok.bs b o e).2 (I.ok.nofr e) (I.ok.noex b o e), I.base.free b o (I.ok.bs b o e).1 (I.ok.bs b o e).2 (I.ok.noex b o e)⟩
theorem Inv.bk (I : Inv X pins σ H s) : ∀ b o, X.base.get? b = some o → s.heap.get? b = some o := fun b o e => (I.bs b o e).1
theorem Inv.mod (I : Inv X pins σ H s) : Mod X.K X.mg X.base := I.ok.mod
theorem Inv.kIn (I : Inv X pins σ H s) : X.K.In s.heap := I.ok.mod.kin.keeps I.bk
theorem Inv.nolimit (I : Inv X pins σ H s) : s.heap.NoLimit := I.ok.mod.nolimit.keeps I.bk
theorem Inv.fr (I : Inv X pins σ H s) : ∃ m, Fr X.base X.env.locals s.heap m :=
  let ⟨m, hn, _⟩ := I.loc
  ⟨m, hn, I.bk, Nat.le_trans I.ok.bsz I.ok.above⟩
theorem Inv.lt (I : Inv X pins σ H s) : X.env.locals < s.heap.objs.size := let ⟨_, hn, _⟩ := I.loc; hn.lt
theorem Inv.sz (I : Inv X pins σ H s) : X.s₀.heap.objs.size ≤ s.heap.objs.size := Nat.le_trans I.ok.above (Nat.le_of_lt I.lt)
theorem Inv.nofs (I : Inv X pins σ H s) {a : Addr} (h : s.heap.objs.size ≤ a) : a ∉ X.fs := fun hb => by
  obtain ⟨_, o, ho, _⟩ := I.ok.funs.mem hb
  exact absurd (Nat.lt_of_lt_of_le (Heap.lt_size ho) (Nat.le_trans I.sz h)) (Nat.lt_irrefl _)
theorem Inv.cne (I : Inv X pins σ H s) : ∀ x c, X.env.cells.lookup x = some c → c ≠ X.env.locals := fun x c e z => by
  obtain ⟨v, o, ho, hd⟩ := I.cell x c e
  obtain ⟨m, ⟨o', es, ep, ho', hd', _⟩, _⟩ := I.loc
  rw [z, ho'] at ho; cases ho; rw [hd'] at hd; cases hd
theorem Inv.funs (I : Inv X pins σ H s) : s.heap.FunFrames X.base X.outer := by
  have all : ∀ (l : List Env), (∀ b ∈ frs l, b ∈ X.fs) → X.s₀.heap.FunFrames X.base l → s.heap.FunFrames X.base l := by
    intro l
    induction l with
    | nil => intro _ _; trivial
    | cons env r ih =>
      intro hs hl
      obtain ⟨hk, ⟨L, o, hf, hn, ho, hd⟩, hr⟩ := hl
      have hL : L ∈ X.fs := hs L (by unfold frs; rw [List.filterMap_cons, hf]; exact List.mem_cons_self)
      obtain ⟨sl, e⟩ := I.base.slot L o ho (I.ok.frf L hL) hL fun z => I.ok.exfs L z hL
      exact ⟨hk, ⟨L, _, hf, hn, e, hd⟩, ih (fun b hb => hs b (by unfold frs; rw [List.filterMap_cons, hf]; exact List.mem_cons_of_mem _ hb)) hr⟩
  exact all X.outer (fun _ hb => hb) I.ok.funs

theorem Inv.stack (I : Inv X pins σ H s) : s.heap.FunFrames X.base X.stack := by
  rcases I.ok.stk with e | ⟨e, hf⟩
  · rw [e]; exact I.funs
  · rw [e]
    obtain ⟨m, hn, _⟩ := I.loc
    refine .cons (by rw [I.ok.kind]; decide) hf hn ?_ I.funs
    exact Heap.get?_none_of_le (Nat.le_trans I.ok.bsz I.ok.above)
theorem Inv.stkSub (I : Inv X pins σ H s) : ∀ b ∈ frs X.stack, b ∈ X.env.locals :: X.fs := fun b hb => by
  rcases I.ok.stk with e | ⟨e, hf⟩
  · rw [e] at hb; exact List.mem_cons_of_mem _ hb
  · rw [e] at hb
    unfold frs at hb
    rw [List.filterMap_cons, hf] at hb
    exact hb
theorem Inv.stkFree (I : Inv X pins σ H s) : ∀ b ∈ frs X.stack, H b = none := fun b hb => by
  rcases List.mem_cons.mp (I.stkSub b hb) with e | hb
  · rw [e]; exact I.free
  · obtain ⟨_, o, ho, _⟩ := I.ok.funs.mem hb
    exact I.base.free b o ho (I.ok.frf b hb) fun z => I.ok.exfs b z hb

theorem Inv.step {g' : Array GenState} {t' : Nat} {d' : Drawn} {ch : List Addr} (I : Inv X pins σ H s)
    (hch : ∀ b ∈ ch, (b ∈ X.ex ∨ X.s₀.heap.objs.size ≤ b) ∧ b ≠ X.env.locals ∧ (∀ x c, X.env.cells.lookup x = some c → c ≠ b) ∧ ∀ p ∈ X.pn ++ pins, p.1 ≠ b)
    (keep : ∀ b o, b ≠ X.env.locals → b ∉ X.fs → b ∉ ch → s.heap.get? b = some o → H b = none → h'.get? b = some o)
    (slot : ∀ b o, b ≠ X.env.locals → b ∈ X.fs → b ∉ ch → s.heap.get? b = some o → H b = none → ∃ sl, h'.get? b = some { o with slots := sl }) (free : ∀ b o, b ∉ ch → s.heap.get? b = some o → H b = none → H' b = none)
    (there : ∀ b o, b ∉ ch → s.heap.get? b = some o → ∃ o', h'.get? b = some o')
    (tups : ∀ b xs, H b = some (.tup xs) → H' b = some (.tup xs)) (frzs : ∀ b o u, H b = some (.frz o u) → H' b = some (.frz o u)) (tbls : ∀ b ps, H b = some (.tbl ps) → ∃ more, H' b = some (.tbl (ps ++ more)))
    (ns : ∀ m, s.heap.Ns X.env.locals m → h'.Ns X.env.locals m) (hok : HOk X.prog X.w H' h') (hg : AllBare g') :
    Inv X pins σ H' { s with heap := h', gens := g', drawn := d', toks := t' } := by
  have neL : ∀ b o, X.s₀.heap.get? b = some o → b ≠ X.env.locals := fun b o e => Nat.ne_of_lt (Nat.lt_of_lt_of_le (Heap.lt_size e) I.ok.above)
  have neC : ∀ b o, X.s₀.heap.get? b = some o → b ∉ X.ex → b ∉ ch := fun b o e hx hb => by
    rcases (hch b hb).1 with z | z
    · exact hx z
    · exact absurd (Nat.lt_of_lt_of_le (Heap.lt_size e) z) (Nat.lt_irrefl _)
  have cellK : ∀ x c, X.env.cells.lookup x = some c → ∀ v, s.heap.IsCell c v → h'.IsCell c v := fun x c e v ⟨o, ho, hd⟩ => by
    have nch : c ∉ ch := fun z => (hch c z).2.2.1 x c e rfl
    by_cases hc : c ∈ X.fs
    · obtain ⟨sl, q⟩ := slot c o (I.cne x c e) hc nch ho (I.freeC x c e)
      exact ⟨_, q, hd⟩
    · exact ⟨o, keep c o (I.cne x c e) hc nch ho (I.freeC x c e), hd⟩
  refine ⟨I.ok, I.os, hg, ⟨fun b o e n hb hx => ?_, fun b o e n hb hx => ?_, fun b o e n hx => ?_, fun b o e hx => ?_, fun b xs e => tups b xs (I.base.tups b xs e), fun b o xs e => frzs b o xs (I.base.frzs b o xs e), fun b ps e => ?_⟩, ?_, fun x c e => ?_, ?_, fun x c e => ?_, fun p hp => ?_, hok, I.len⟩
  · exact keep b o (neL b o e) hb (neC b o e hx) (I.base.keep b o e n hb hx) (I.base.free b o e n hx)
  · obtain ⟨sl, e1⟩ := I.base.slot b o e n hb hx
    obtain ⟨sl', e2⟩ := slot b _ (neL b o e) hb (neC b o e hx) e1 (I.base.free b o e n hx)
    exact ⟨sl', e2⟩
  · obtain ⟨o', e1⟩ := I.base.there b o e hx
    exact free b o' (neC b o e hx) e1 (I.base.free b o e n hx)
  · obtain ⟨o', e1⟩ := I.base.there b o e hx
    exact there b o' (neC b o e hx) e1
  · obtain ⟨m1, e1⟩ := I.base.tbls b ps e
    obtain ⟨m2, e2⟩ := tbls b _ e1
    exact ⟨m1 ++ m2, by rw [e2, Array.append_assoc]⟩
  · obtain ⟨m, hn, hl⟩ := I.loc
    refine ⟨m, ns m hn, fun i x v e1 e2 e3 => ?_⟩
    obtain ⟨u, r, l⟩ := hl i x v e1 e2 e3
    refine ⟨u, r, ?_⟩
    rcases l with l | ⟨k, c, e, z⟩
    · exact .inl l
    · exact .inr ⟨k, c, e, cellK x c e _ z⟩
  · obtain ⟨v, z⟩ := I.cell x c e
    exact ⟨v, cellK x c e v z⟩
  · obtain ⟨m, ⟨o, _, _, ho, _⟩, _⟩ := I.loc
    exact free _ o (fun z => (hch _ z).2.1 rfl) ho I.free
  · obtain ⟨v, o, ho, hd⟩ := I.cell x c e
    exact free c o (fun z => (hch c z).2.2.1 x c e rfl) ho (I.freeC x c e)
  · obtain ⟨e, n, ne, nf, d⟩ := I.pin p hp
    have nch : p.1 ∉ ch := fun z => (hch p.1 z).2.2.2 p hp rfl
    exact ⟨keep p.1 p.2 ne nf nch e n, free p.1 p.2 nch e n, ne, nf, d⟩
theorem Inv.un {t' : Nat} (I : Inv X pins σ H s) (u : Un X.fs [] H H' s.heap h') (hok : HOk X.prog X.w H' h') : Inv X pins σ H' { s with heap := h', toks := t' } := by
  obtain ⟨m, ⟨o, es, ep, ho, r⟩, _⟩ := id I.loc
  obtain ⟨sl, hL⟩ := u.any ho I.free (by simp)
  exact I.step (g' := s.gens) (d' := s.drawn) (ch := []) (fun _ z => nomatch z) (fun b o _ hb _ e n => u.keep b o e n hb (by simp)) (fun b o _ hb _ e n => u.slot b o e n hb (by simp)) (fun b o _ e n => u.free b o e n (by simp)) (fun b o _ e => u.there b o e (by simp)) u.tups u.frzs u.tbls (fun m' hm => by
    obtain ⟨o', es', ep', ho', r'⟩ := hm
    rw [ho] at ho'; cases ho'
    exact ⟨_, es', ep', hL, r'⟩) hok I.bare
theorem Inv.call {g' : Array GenState} {t' : Nat} {d' : Drawn} {ch : List Addr} (I : Inv X pins σ H s) (u : Un (frs X.stack) ch H H' s.heap h') (hok : HOk X.prog X.w H' h') (hg : AllBare g')
    (hch : ∀ b ∈ ch, (b ∈ X.ex ∨ X.s₀.heap.objs.size ≤ b) ∧ b ≠ X.env.locals ∧ (∀ x c, X.env.cells.lookup x = some c → c ≠ b) ∧ ∀ p ∈ X.pn ++ pins, p.1 ≠ b) :
    Inv X pins σ H' { s with heap := h', gens := g', drawn := d', toks := t' } := by
  obtain ⟨m, ⟨o, es, ep, ho, r⟩, _⟩ := id I.loc
  obtain ⟨sl, hL⟩ := u.any ho I.free fun z => (hch _ z).2.1 rfl
  exact I.step (ch := ch) hch (fun b o hL hb hc e n => u.keep b o e n (fun z => (List.mem_cons.mp (I.stkSub b z)).elim hL hb) hc) (fun b o _ _ hc e n => u.any e n hc) (fun b o hc e n => u.free b o e n hc) (fun b o hc e => u.there b o e hc) u.tups u.frzs u.tbls (fun m' hm => by
    obtain ⟨o', es', ep', ho', r'⟩ := hm
    rw [ho] at ho'; cases ho'
    exact ⟨_, es', ep', hL, r'⟩) hok hg
theorem Inv.turned {t' : Nat} {it : Addr} (I : Inv X pins σ H s) (k : ∀ b o, b ≠ it → s.heap.get? b = some o → h'.get? b = some o) (hn : H it = none) (hL : it ≠ X.env.locals)
    (h1 : it ∈ X.ex ∨ X.s₀.heap.objs.size ≤ it) (h2 : ∀ x c, X.env.cells.lookup x = some c → c ≠ it) (h3 : ∀ p ∈ X.pn ++ pins, p.1 ≠ it) : Inv X pins σ H { s with heap := h', toks := t' } := by
  have nit : ∀ b u, H b = some u → b ≠ it := fun b u e z => by rw [z, hn] at e; cases e
  refine I.step (g' := s.gens) (d' := s.drawn) (ch := [it]) (fun b hb => ?_) (fun b o _ _ hc e _ => k b o (fun z => hc (by simp [z])) e) (fun b o _ _ hc e _ => ⟨o.slots, k b o (fun z => hc (by simp [z])) e⟩) (fun _ _ _ _ n => n)
    (fun b o hc e => ⟨o, k b o (fun z => hc (by simp [z])) e⟩) (fun _ _ e => e) (fun _ _ _ e => e) (fun b ps e => ⟨#[], by rw [e]; simp⟩) (fun m hm => ?_) (fun b u e => ?_) I.bare
  · have e : b = it := by simpa using hb
    subst e
    exact ⟨h1, hL, h2, h3⟩
  · obtain ⟨o, es, ep, ho, r⟩ := hm
    exact ⟨o, es, ep, k _ o (Ne.symm hL) ho, r⟩
  · refine (I.hok b u e).stay (fun c v hc q => k c v ?_ q) (fun _ q => q) fun _ _ q => q
    rcases hc with z | z
    · rw [z]; exact nit b u e
    · exact nit c _ z
theorem Inv.tok (I : Inv X pins σ H s) (t : Nat) : Inv X pins σ H { s with toks := t } := I.un (h' := s.heap) (t' := t) Un.refl I.hok
theorem Inv.kept {t' : Nat} (I : Inv X pins σ H s) (k : ∀ b u, s.heap.get? b = some u → h'.get? b = some u) : Inv X pins σ H { s with heap := h', toks := t' } := I.un (Un.kept k) (I.hok.kept k)
theorem Inv.laid {a : Addr} {o : HO} {t' : Nat} (I : Inv X pins σ H s) (k : ∀ b u, s.heap.get? b = some u → h'.get? b = some u) (hp : s.heap.objs.size ≤ a) (new : ObjOk X.prog X.w (upd H a o) h' a o) :
    Inv X pins σ (upd H a o) { s with heap := h', toks := t' } := I.un (Un.laid k hp (I.hok.fresh hp)) (I.hok.laid k hp new)
theorem Inv.write {x e : Addr} {o : HO} {t' : Nat} (I : Inv X pins σ H s) (mu : Mut (H x)) (he : e = x ∨ H e = some (.own x)) (k : ∀ b u, b ≠ e → s.heap.get? b = some u → h'.get? b = some u) (heo : ∃ u, h'.get? e = some u)
    (new : ObjOk X.prog X.w (upd H x o) h' x o) : Inv X pins σ (upd H x o) { s with heap := h', toks := t' } := I.un (Un.write mu he k heo) (I.hok.write mu he k heo new)
theorem Inv.weak {σ' : List (Option V)} (I : Inv X pins σ H s) (hl : σ'.length = σ.length) (w : ∀ (i : Nat) v, σ'[i]? = some (some v) → σ[i]? = some (some v)) : Inv X pins σ' H s :=
  ⟨I.ok, I.os, I.bare, I.base, let ⟨m, hn, hl'⟩ := I.loc; ⟨m, hn, fun i x v e1 e2 e3 => hl' i x v e1 (w i v e2) e3⟩, I.cell, I.free, I.freeC, I.pin, I.hok, hl.trans I.len⟩
theorem Inv.pins_of {pins' : List (Addr × Obj)} (I : Inv X pins σ H s) (h : ∀ p ∈ pins', s.heap.get? p.1 = some p.2 ∧ H p.1 = none ∧ p.1 ≠ X.env.locals ∧ p.1 ∉ X.fs ∧ ∀ v, p.2.data ≠ .cell v) : Inv X pins' σ H s :=
  ⟨I.ok, I.os, I.bare, I.base, I.loc, I.cell, I.free, I.freeC, fun p hp => (List.mem_append.mp hp).elim (fun z => I.pin p (List.mem_append_left _ z)) (h p), I.hok, I.len⟩

theorem nodup_ix {N : List Str} (hN : N.Nodup) {i j : Nat} {x : Str} (a : N[i]? = some x) (b : N[j]? = some x) : i = j := by
  obtain ⟨h1, e1⟩ := List.getElem?_eq_some_iff.mp a
  obtain ⟨h2, e2⟩ := List.getElem?_eq_some_iff.mp b
  exact (List.getElem_inj hN).mp (e1.trans e2.symm)

theorem store_ok2 {M : Model} {A : Around} {E : Value → Shared → Prop} {i : Nat} {x : Str} {v : V} {u : Value} {Q : Unit → Shared → Prop} (I : Inv X pins σ H s) (hN : X.N.Nodup) (hi : X.N[i]? = some x) (hx : Loc X.env.scope x) (r : RelV v u)
    (h : ∀ s', Inv X pins (σ.set i (some v)) H s' → (∃ a, Heap.SameBut a s.heap s'.heap ∧ (a = X.env.locals ∨ X.env.cells.lookup x = some a)) → Q () s') (hf : X.fn x = true ∨ X.env.scope.names.lookup x = some .local := by first | exact .inl rfl | exact .inr rfl | assumption) : wpAny M A (storeName X.env x u) Q E s := by
  obtain ⟨m, hn, hl⟩ := id I.loc
  have hcls : (X.env.scope.kind == .class || (X.env.scope.kind == .module && X.env.locals != X.env.globals)) = false := by rw [I.ok.kind]; rfl
  have hiσ : i < σ.length := by rw [I.len]; exact (List.getElem?_eq_some_iff.mp hi).1
  have cne := I.cne
  have tracked : ∀ {a : Addr} {h' : Heap}, (∃ o, s.heap.get? a = some o ∧ H a = none) → Heap.SameBut a s.heap h' → HOk X.prog X.w H h' := fun {a h'} ha hs b ob e => by
    obtain ⟨_, _, hfree⟩ := ha
    refine (I.hok b ob e).stay (fun c w' hc q => (hs.2 c ?_).trans q) (fun _ q => q) fun _ _ q => q
    rintro rfl
    rcases hc with rfl | hc
    · rw [hfree] at e; cases e
    · rw [hfree] at hc; cases hc
  rcases hx with hk | hk
  · refine wpAny_storeName_local hk hn (fun h' hn' hs => ?_) hcls
    obtain ⟨oL, _, _, hoL, _⟩ := id hn
    refine h _ ⟨I.ok, I.os, I.bare, ⟨fun b o e n hb hx => ?_, fun b o e n hb hx => ?_, I.base.free, fun b o e hx => ?_, I.base.tups, I.base.frzs, I.base.tbls⟩, ⟨_, hn', fun j y v' e1 e2 e3 => ?_⟩, fun y c e => ?_, I.free, I.freeC, fun p hp => ?_, tracked ⟨oL, hoL, I.free⟩ hs, by simpa using I.len⟩ ⟨_, hs, .inl rfl⟩
    · exact (hs.2 b (Nat.ne_of_lt (Nat.lt_of_lt_of_le (Heap.lt_size e) I.ok.above))).trans (I.base.keep b o e n hb hx)
    · obtain ⟨sl, e1⟩ := I.base.slot b o e n hb hx
      exact ⟨sl, (hs.2 b (Nat.ne_of_lt (Nat.lt_of_lt_of_le (Heap.lt_size e) I.ok.above))).trans e1⟩
    · obtain ⟨o', e1⟩ := I.base.there b o e hx
      exact ⟨o', (hs.2 b (Nat.ne_of_lt (Nat.lt_of_lt_of_le (Heap.lt_size e) I.ok.above))).trans e1⟩
    · by_cases hj : j = i
      · subst hj
        rw [hi] at e1; cases e1
        rw [List.getElem?_set_self hiσ] at e2
        cases e2
        exact ⟨u, r, .inl ⟨hk, by simp⟩⟩
      · rw [List.getElem?_set_ne (Ne.symm hj)] at e2
        obtain ⟨u', r', q⟩ := hl j y v' e1 e2 e3
        refine ⟨u', r', ?_⟩
        rcases q with ⟨k, e⟩ | ⟨k, c, e, z⟩
        · refine .inl ⟨k, ?_⟩
          have : y ≠ x := fun e => hj (nodup_ix hN e1 (e ▸ hi))
          simp [this, e]
        · exact .inr ⟨k, c, e, z.sameBut hs (cne y c e)⟩
    · obtain ⟨w', z⟩ := I.cell y c e
      exact ⟨w', z.sameBut hs (cne y c e)⟩
    · obtain ⟨e, n, ne, nf, d⟩ := I.pin p hp
      exact ⟨(hs.2 p.1 ne).trans e, n, ne, nf, d⟩
  · have hfn : X.fn x = true := by
      rcases hf with z | z
      · exact z
      · rw [z] at hk; cases hk
    obtain ⟨c, hc⟩ := I.ok.has x (.inl hk)
    obtain ⟨w', z⟩ := I.cell x c hc
    refine wpAny_storeName_cell I.ok.kind hk hc z (fun h' hc' hs => ?_)
    obtain ⟨oc, hoc, hocd⟩ := id z
    refine h { s with heap := h' } ⟨I.ok, I.os, I.bare, ⟨fun b o e n hb hx => ?_, fun b o e n hb hx => ?_, I.base.free, fun b o e hx => ?_, I.base.tups, I.base.frzs, I.base.tbls⟩, ⟨m, hn.sameBut hs (Ne.symm (cne x c hc)), fun j y v' e1 e2 e3 => ?_⟩, fun y c' e => ?_, I.free, I.freeC, fun p hp => ?_, tracked ⟨oc, hoc, I.freeC x c hc⟩ hs, by simpa using I.len⟩ ⟨c, hs, .inr hc⟩
    · exact (hs.2 b (Nat.ne_of_lt (Nat.lt_of_lt_of_le (Heap.lt_size e) (I.ok.cab x c hfn hc)))).trans (I.base.keep b o e n hb hx)
    · obtain ⟨sl, e1⟩ := I.base.slot b o e n hb hx
      exact ⟨sl, (hs.2 b (Nat.ne_of_lt (Nat.lt_of_lt_of_le (Heap.lt_size e) (I.ok.cab x c hfn hc)))).trans e1⟩
    · obtain ⟨o', e1⟩ := I.base.there b o e hx
      exact ⟨o', (hs.2 b (Nat.ne_of_lt (Nat.lt_of_lt_of_le (Heap.lt_size e) (I.ok.cab x c hfn hc)))).trans e1⟩
    · by_cases hj : j = i
      · subst hj
        rw [hi] at e1; cases e1
        rw [List.getElem?_set_self hiσ] at e2
        cases e2
        exact ⟨u, r, .inr ⟨.inl hk, c, hc, hc'⟩⟩
      · rw [List.getElem?_set_ne (Ne.symm hj)] at e2
        obtain ⟨u', r', q⟩ := hl j y v' e1 e2 e3
        refine ⟨u', r', ?_⟩
        rcases q with q | ⟨k, c', e, z'⟩
        · exact .inl q
        · refine .inr ⟨k, c', e, z'.sameBut hs ?_⟩
          rintro rfl
          exact hj (nodup_ix hN e1 (I.ok.inj _ _ _ e hc ▸ hi))
    · by_cases hcc : c' = c
      · subst hcc; exact ⟨_, hc'⟩
      · obtain ⟨w2, z2⟩ := I.cell y c' e
        exact ⟨w2, z2.sameBut hs hcc⟩
    · obtain ⟨e, n, ne, nf, d⟩ := I.pin p hp
      refine ⟨(hs.2 p.1 ?_).trans e, n, ne, nf, d⟩
      intro q
      rw [q, hoc] at e
      have q' : oc = p.2 := Option.some.inj e
      exact d w' (by rw [← q']; exact hocd)
theorem store_ok {M : Model} {A : Around} {E : Value → Shared → Prop} {i : Nat} {x : Str} {v : V} {u : Value} {Q : Unit → Shared → Prop} (I : Inv X pins σ H s) (hN : X.N.Nodup) (hi : X.N[i]? = some x) (hx : Loc X.env.scope x) (r : RelV v u)
    (h : ∀ s', Inv X pins (σ.set i (some v)) H s' → Q () s') (hf : X.fn x = true ∨ X.env.scope.names.lookup x = some .local := by first | exact .inl rfl | exact .inr rfl | assumption) : wpAny M A (storeName X.env x u) Q E s :=
  store_ok2 I hN hi hx r (fun s' I' _ => h s' I') hf
theorem Inv.call' {s' : Shared} {ch : List Addr} (I : Inv X pins σ H s) (ho : s'.os = s.os) (u : Un (frs X.stack) ch H H' s.heap s'.heap) (hok : HOk X.prog X.w H' s'.heap) (hg : AllBare s'.gens)
    (hch : ∀ b ∈ ch, (b ∈ X.ex ∨ X.s₀.heap.objs.size ≤ b) ∧ b ≠ X.env.locals ∧ (∀ x c, X.env.cells.lookup x = some c → c ≠ b) ∧ ∀ p ∈ X.pn ++ pins, p.1 ≠ b) : Inv X pins σ H' s' := by
  obtain ⟨h', g', d', t', o'⟩ := s'
  have e : o' = s.os := ho
  subst e
  exact I.call (g' := g') (t' := t') (d' := d') u hok hg hch
end

noncomputable abbrev XK := Value → Option Addr → Hp → Prop
noncomputable abbrev St := List (Option V)
noncomputable abbrev VK := V → Hp → Prop
noncomputable abbrev TE := St → Hp → VK → Prop
noncomputable abbrev TT := St → Hp → (Bool → Hp → Prop) → Prop
noncomputable abbrev TA := St → Hp → (List V → Hp → Prop) → Prop
structure Ends where
  nx : St → Hp → Prop
  rt : VK
  bk : St → Hp → Prop := fun _ _ => False
  ct : St → Hp → Prop := fun _ _ => False
noncomputable abbrev TS := Ends → St → Hp → Prop

noncomputable def EP (X : Cx) (pins : List (Addr × Obj)) (σ : St) (Q : VK) (u : Value) (s' : Shared) : Prop := ∃ v H', Inv X pins σ H' s' ∧ RelV v u ∧ Q v H'
noncomputable def TP (X : Cx) (pins : List (Addr × Obj)) (σ : St) (Q : Bool → Hp → Prop) (b : Bool) (s' : Shared) : Prop := ∃ H', Inv X pins σ H' s' ∧ Q b H'
noncomputable def AP (X : Cx) (pins : List (Addr × Obj)) (σ : St) (Q : List V → Hp → Prop) (us : List Value) (s' : Shared) : Prop := ∃ vs H', Inv X pins σ H' s' ∧ Vals vs us ∧ Q vs H'
noncomputable def SP (X : Cx) (pins : List (Addr × Obj)) (D : Ends) (f : Flow) (s' : Shared) : Prop :=
  match f with
  | .next => ∃ σ' H', Inv X pins σ' H' s' ∧ D.nx σ' H'
  | .brk => ∃ σ' H', Inv X pins σ' H' s' ∧ D.bk σ' H'
  | .cont => ∃ σ' H', Inv X pins σ' H' s' ∧ D.ct σ' H'
  | .ret u => ∃ v σ' H', Inv X pins σ' H' s' ∧ RelV v u ∧ D.rt v H'

noncomputable def PE (X : Cx) (e : Expr) (t : TE) : Prop :=
  ∀ (pins : List (Addr × Obj)) (s : Shared) (σ : St) (H : Hp) (Q : VK), Inv X pins σ H s → t σ H Q → wpAny (model X.prog X.w) X.A (eval e X.env) (EP X pins σ Q) X.xe s
noncomputable def PT (X : Cx) (e : Expr) (t : TT) : Prop :=
  ∀ (pins : List (Addr × Obj)) (s : Shared) (σ : St) (H : Hp) (Q : Bool → Hp → Prop), Inv X pins σ H s → t σ H Q → wpAny (model X.prog X.w) X.A (isTrue e X.env (eval e X.env)) (TP X pins σ Q) X.xe s
noncomputable def PW (X : Cx) (e : Expr) (t : TT) : Prop :=
  ∀ (whole : Sem Value) (pins : List (Addr × Obj)) (s : Shared) (σ : St) (H : Hp) (Q : Bool → Hp → Prop), Inv X pins σ H s → t σ H Q → wpAny (model X.prog X.w) X.A (isTrue e X.env whole) (TP X pins σ Q) X.xe s
theorem PW.pt {X : Cx} {e : Expr} {t : TT} (h : PW X e t) : PT X e t := h _
noncomputable def PA (X : Cx) (es : List Expr) (t : TA) : Prop :=
  ∀ (pos : Pos) (pins : List (Addr × Obj)) (s : Shared) (σ : St) (H : Hp) (Q : List V → Hp → Prop), Inv X pins σ H s → t σ H Q → wpAny (model X.prog X.w) X.A (spliced (backTo pos (starEach es X.env))) (AP X pins σ Q) X.xe s
noncomputable def PS (X : Cx) (st : Stmt) (t : TS) : Prop :=
  ∀ (pins : List (Addr × Obj)) (s : Shared) (σ : St) (H : Hp) (D : Ends), Inv X pins σ H s → t D σ H → wpAny (model X.prog X.w) X.A (exec st X.env) (SP X pins D) X.xe s
noncomputable def PSs (X : Cx) (st : List Stmt) (t : TS) : Prop :=
  ∀ (pins : List (Addr × Obj)) (s : Shared) (σ : St) (H : Hp) (D : Ends), Inv X pins σ H s → t D σ H → wpAny (model X.prog X.w) X.A (execs st X.env) (SP X pins D) X.xe s
theorem thn {α : Type} {t : Sem α} {Q Q' : α → Shared → Prop} {M : Model} {A : Around} {E : Value → Shared → Prop} {s : Shared} (h : wpAny M A t Q E s) (hQ : ∀ a s, Q a s → Q' a s) : wpAny M A t Q' E s := wpAny_mono h hQ fun _ _ x => x
end L2

namespace L2
open PySem PySem.Spec PyProof.Rows
section
variable {X : Cx}

noncomputable def tVar (i : Nat) : TE := fun σ H Q => ∃ v, σ[i]? = some (some v) ∧ Q v H
noncomputable def tC (v : V) : TE := fun _ H Q => Q v H
theorem pe_var {i : Nat} {x : Str} {pos : Pos} (hN : X.N[i]? = some x) (hv : Vis X.env.scope x) (hd : (x == ("__debug__" : Str)) = false := by decide) (hcd : (x == ("__classdict__" : Str)) = false := by decide) : PE X (.Name x pos) (tVar i) := by
  intro pins s σ H Q I h
  obtain ⟨v, e, h⟩ := h
  obtain ⟨m, hn, hl⟩ := I.loc
  obtain ⟨u, r, l⟩ := hl i x v hN e hv
  have fin : EP X pins σ Q u s := ⟨v, H, I, r, h⟩
  rcases l with ⟨hk, hm⟩ | ⟨hk, c, hc, hcell⟩
  · exact wpAny_Name (wpAny_loadName_local I.ok.kind hk hn hm fin) hd
  · rcases hk with hk | hk
    · exact wpAny_Name (wpAny_loadName_cell I.ok.kind hk hc hcell fin) hd
    · exact wpAny_Name (wpAny_loadName_free I.ok.kind hk hc hcell fin hcd) hd
theorem pe_int {i j pos} : PE X (.Constant (.int i) j pos) (tC (.int i)) := fun _ _ _ H _ I h => wpAny_Constant_int ⟨.int i, H, I.tok _, ⟨_, rfl⟩, h⟩
theorem pe_bl {b j pos} : PE X (.Constant (.bool b) j pos) (tC (.bl b)) := fun _ _ _ H _ I h => Constant_bool ⟨.bl b, H, I, rfl, h⟩
theorem pe_non {j pos} : PE X (.Constant .none j pos) (tC .non) := fun _ _ _ H _ I h => Constant_none ⟨.non, H, I, rfl, h⟩
theorem pe_str {x j pos} : PE X (.Constant (.str x) j pos) (tC (.str x)) := fun _ _ _ H _ I h => Calls.Constant_str ⟨.str x, H, I.tok _, ⟨_, rfl⟩, h⟩

noncomputable def Gl (X : Cx) (x : Str) : Prop := X.env.kindOf x = some .globalImplicit
theorem ld_glob {E : Value → Shared → Prop} {pins : List (Addr × Obj)} {s : Shared} {σ : St} {H : Hp} {x : Str} {u : Value} {pos : Pos} {Q : Value → Shared → Prop} (I : Inv X pins σ H s) (hg : Gl X x) (hm : X.mg x = some u) (h : Q u s)
    (hd : (x == ("__debug__" : Str)) = false := by decide) : wpAny (model X.prog X.w) X.A (eval (.Name x pos) X.env) Q E s :=
  Calls.Name_function_global I.ok.kind hg (Calls.loadGlobal_global (by rw [I.ok.glob]; exact I.mod.glob.keeps I.bk) hm h) hd
theorem ld_blt {E : Value → Shared → Prop} {pins : List (Addr × Obj)} {s : Shared} {σ : St} {H : Hp} {x : Str} {u : Value} {pos : Pos} {Q : Value → Shared → Prop} (I : Inv X pins σ H s) (hg : Gl X x) (hm : X.mg x = none) (hv : bootBuiltins x = some u) (h : Q u s)
    (hn : x ≠ "__name__" := by decide) (hd : (x == ("__debug__" : Str)) = false := by decide) : wpAny (model X.prog X.w) X.A (eval (.Name x pos) X.env) Q E s := by
  obtain ⟨mb, h1, h2⟩ := I.mod.blt
  exact Calls.Name_function_global I.ok.kind hg (Calls.loadGlobal_builtin (by rw [I.ok.glob]; exact I.mod.glob.keeps I.bk) hm (by rw [I.ok.blt]; exact h1.keeps I.bk) ((h2 x hn).trans hv) h) hd
theorem pe_glob {x : Str} {v : V} {u : Value} {pos : Pos} (hg : Gl X x) (hm : X.mg x = some u) (r : RelV v u) (hd : (x == ("__debug__" : Str)) = false := by decide) : PE X (.Name x pos) (tC v) :=
  fun _ _ _ H _ I h => ld_glob I hg hm ⟨v, H, I, r, h⟩ hd
theorem pe_bltn {x : Str} {v : V} {u : Value} {pos : Pos} (hg : Gl X x) (hm : X.mg x = none) (hv : bootBuiltins x = some u) (r : RelV v u) (hn : x ≠ "__name__" := by decide) (hd : (x == ("__debug__" : Str)) = false := by decide) : PE X (.Name x pos) (tC v) :=
  fun _ _ _ H _ I h => ld_blt I hg hm hv ⟨v, H, I, r, h⟩ hn hd

variable {a b : Expr} {ta tb : TE} {pos : Pos}
noncomputable def PC (X : Cx) (op : CmpOp) (a b : Expr) (t : TE) : Prop :=
  ∀ (pins : List (Addr × Obj)) (s : Shared) (σ : St) (H : Hp) (Q : VK), Inv X pins σ H s → t σ H Q →
    wpAny (model X.prog X.w) X.A (eval a X.env) (fun v s₁ => wpAny (model X.prog X.w) X.A (eval b X.env) (fun u s₂ => wpAny (model X.prog X.w) X.A (compareOp op v u) (EP X pins σ Q) X.xe s₂) X.xe s₁) X.xe s
theorem nobehind (b : Expr) {op : CmpOp} (h : op ≠ .In) (h2 : op ≠ .NotIn) : behindInMarks op b = false := by
  have e1 : (op == CmpOp.In) = false := by cases op <;> first | rfl | exact absurd rfl h
  have e2 : (op == CmpOp.NotIn) = false := by cases op <;> first | rfl | exact absurd rfl h2
  cases b <;> simp [behindInMarks, e1, e2]
noncomputable def tIsN (ta : TE) : TE := fun σ H Q => ta σ H fun x H1 => Q (.bl (decide (x = .non))) H1
noncomputable def tNotN (ta : TE) : TE := fun σ H Q => ta σ H fun x H1 => Q (.bl (!decide (x = .non))) H1
theorem RelV.none_iff {x : V} {v : Value} (r : RelV x v) : (v == Value.none) = decide (x = .non) := by
  cases x with
  | non => cases r; rfl
  | bl _ => cases r; rfl
  | int _ => obtain ⟨t, rfl⟩ := r; rfl
  | str _ => obtain ⟨t, rfl⟩ := r; rfl
  | byt _ => obtain ⟨t, rfl⟩ := r; rfl
  | flt _ => obtain ⟨t, rfl⟩ := r; rfl
  | ref _ => cases r; rfl
  | ty _ => cases r; rfl
theorem pc_isN {j pos'} (ha : PE X a ta) : PC X .Is a (.Constant .none j pos') (tIsN ta) := by
  intro pins s σ H Q I h
  refine thn (ha pins s σ H _ I h) fun v s1 ⟨x, H1, I1, r1, q1⟩ => ?_
  exact Constant_none (is_none_gen ⟨.bl _, H1, I1, by rw [r1.none_iff]; rfl, q1⟩)
theorem pc_notN {j pos'} (ha : PE X a ta) : PC X .IsNot a (.Constant .none j pos') (tNotN ta) := by
  intro pins s σ H Q I h
  refine thn (ha pins s σ H _ I h) fun v s1 ⟨x, H1, I1, r1, q1⟩ => ?_
  exact Constant_none (isnot_none_gen ⟨.bl _, H1, I1, by rw [r1.none_iff]; rfl, q1⟩)
noncomputable def tB (t : TE) : TT := fun σ H Q => t σ H fun x H1 => ∃ c, x = .bl c ∧ Q c H1
theorem pt_cmp {op : CmpOp} {t : TE} (h : PC X op a b t) (h1 : behindInMarks op b = false := by first | exact nobehind _ (by decide) (by decide) | rfl) : PT X (.Compare a [op] [b] pos) (tB t) := by
  intro pins s σ H Q I hw
  refine wpAny_isTrue_Compare1 (thn (h pins s σ H _ I hw) fun v s1 h1 => thn h1 fun u s2 h2 => thn h2 fun c s3 ⟨x, H1, I1, r1, q1⟩ => ?_) h1
  obtain ⟨d, rfl, q⟩ := q1
  cases r1
  exact wpAny_truthy_bool ⟨H1, I1, q⟩
theorem pt_val {e : Expr} {t : TE} (h : PE X e t) (he : ∀ whole, isTrue e X.env whole = (do let v ← whole; standAt e.pos; holding [v] (truthy v)) := by intro _; rfl) : PT X e (tB t) := by
  intro pins s σ H Q I hw
  refine isTrue_plain (thn (h pins s σ H _ I hw) fun v s1 ⟨x, H1, I1, r1, q1⟩ => ?_) (he _)
  obtain ⟨d, rfl, q⟩ := q1
  cases r1
  exact wpAny_truthy_bool ⟨H1, I1, q⟩

variable {tA tB' : TT} {rest : List Expr}
noncomputable def tAnd (t u : TT) : TT := fun σ H Q => t σ H fun c H1 => if c = true then u σ H1 Q else Q false H1
noncomputable def tOr (t u : TT) : TT := fun σ H Q => t σ H fun c H1 => if c = true then Q true H1 else u σ H1 Q
noncomputable def tNot (t : TT) : TT := fun σ H Q => t σ H fun c H1 => Q (!c) H1
theorem pw_and1 (ha : PT X a tA) : PW X (.BoolOp .And [a] pos) tA := by
  intro wh pins s σ H Q I h
  refine isTrue_and (thn (ha pins s σ H Q I h) fun c s1 e => ?_)
  cases c with
  | true => exact isTrue_and_nil e
  | false => exact e
theorem pw_or1 (ha : PT X a tA) : PW X (.BoolOp .Or [a] pos) tA := by
  intro wh pins s σ H Q I h
  refine isTrue_or (thn (ha pins s σ H Q I h) fun c s1 e => ?_)
  cases c with
  | false => exact isTrue_or_nil e
  | true => exact e
theorem pw_and (ha : PT X a tA) (hb : PW X (.BoolOp .And (b :: rest) pos) tB') : PW X (.BoolOp .And (a :: b :: rest) pos) (tAnd tA tB') := by
  intro wh pins s σ H Q I h
  refine isTrue_and (thn (ha pins s σ H _ I h) fun c s1 ⟨H1, I1, q1⟩ => ?_)
  cases c with
  | true => exact hb wh pins s1 σ H1 Q I1 q1
  | false => exact ⟨H1, I1, q1⟩
theorem pw_or (ha : PT X a tA) (hb : PW X (.BoolOp .Or (b :: rest) pos) tB') : PW X (.BoolOp .Or (a :: b :: rest) pos) (tOr tA tB') := by
  intro wh pins s σ H Q I h
  refine isTrue_or (thn (ha pins s σ H _ I h) fun c s1 ⟨H1, I1, q1⟩ => ?_)
  cases c with
  | true => exact ⟨H1, I1, q1⟩
  | false => exact hb wh pins s1 σ H1 Q I1 q1
theorem pt_not (ha : PT X a tA) : PT X (.UnaryOp .Not a pos) (tNot tA) := by
  intro pins s σ H Q I h
  exact isTrue_not (ha pins s σ H (fun c H1 => Q (!c) H1) I h)
noncomputable def tNotV (ta : TE) : TE := fun σ H Q => ta σ H fun x H1 => ∃ c, x = .bl c ∧ Q (.bl (!c)) H1
theorem pe_not (ha : PE X a ta) : PE X (.UnaryOp .Not a pos) (tNotV ta) := by
  intro pins s σ H Q I h
  refine UnaryOp_ (thn (ha pins s σ H _ I h) fun v s1 ⟨x, H1, I1, r1, q1⟩ => ?_)
  obtain ⟨c, rfl, q1⟩ := q1
  cases r1
  exact not_of (wpAny_truthy_bool ⟨.bl (!c), H1, I1, rfl, q1⟩)
end
end L2

namespace L2
open PySem PySem.Spec PyProof.Rows

noncomputable def SqL (K : PySem.W.Frag) (H : Hp) (a : Addr) (xs : List V) : Prop :=
  Rd H a (.lst xs) ∨
    ∃ (o : Obj) (its : Array Value) (n : Nat), K.lookup a = some o ∧ o.cls = .type "list" ∧ o.dict = none ∧ o.data = .seq its n ∧ its.size ≤ sizeLine ∧ Vals xs its.toList
noncomputable def SqT (K : PySem.W.Frag) (H : Hp) (a : Addr) (xs : List V) : Prop :=
  Rd H a (.tup xs) ∨
    ∃ (o : Obj) (its : Array Value) (n : Nat), K.lookup a = some o ∧ o.cls = .type "tuple" ∧ o.data = .seq its n ∧ its.size ≤ sizeLine ∧ Vals xs its.toList
noncomputable def absV : Value → Option V
  | .none => some .non
  | .bool b => some (.bl b)
  | .int i _ => some (.int i)
  | .str x _ => some (.str x)
  | .bytes b _ => some (.byt b)
  | .float b _ => some (.flt b)
  | .ref a => some (.ref a)
  | .type n => some (.ty n)
  | _ => none
theorem RelV.abs {x : V} {u : Value} (r : RelV x u) : absV u = some x := by
  cases x with
  | non => cases r; rfl
  | bl _ => cases r; rfl
  | int _ => obtain ⟨t, rfl⟩ := r; rfl
  | str _ => obtain ⟨t, rfl⟩ := r; rfl
  | byt _ => obtain ⟨t, rfl⟩ := r; rfl
  | flt _ => obtain ⟨t, rfl⟩ := r; rfl
  | ref _ => cases r; rfl
  | ty _ => cases r; rfl
theorem RelV.inj {x y : V} {u : Value} (r : RelV x u) (q : RelV y u) : x = y := Option.some.inj (r.abs.symm.trans q.abs)
theorem Vals.inj : ∀ {xs ys : List V} {us : List Value}, Vals xs us → Vals ys us → xs = ys
  | _, _, _, .nil, .nil => rfl
  | _, _, _, .cons r t, .cons r' t' => by rw [r.inj r', Vals.inj t t']
section
variable {X : Cx} {pins : List (Addr × Obj)} {σ : St} {H : Hp} {s : Shared} {a : Addr} {xs ys : List V}
theorem SqL.of {K : PySem.W.Frag} (h : H a = some (.lst xs)) : SqL K H a xs := .inl (.inl h)
theorem SqT.of {K : PySem.W.Frag} (h : H a = some (.tup xs)) : SqT K H a xs := .inl (.inl h)
theorem Inv.list (I : Inv X pins σ H s) (h : SqL X.K H a xs) : ∃ its : List Value, Vals xs its ∧ PlainL s.heap a its.toArray ∧ xs.length ≤ sizeLine := by
  rcases h with h | ⟨o, its, n, hk, hc, hd, hs, hz, r⟩
  · obtain ⟨z, its, n, r, e⟩ := h.ok I.hok
    exact ⟨its, r, ⟨_, n, e, rfl, rfl, rfl⟩, z⟩
  · refine ⟨its.toList, r, ⟨o, n, I.kIn a o hk, hc, hd, by simpa using hs⟩, ?_⟩
    have e := r.length
    simp only [Array.length_toList] at e
    omega
theorem Inv.tuple (I : Inv X pins σ H s) (h : SqT X.K H a xs) : ∃ its : List Value, Vals xs its ∧ IsTup s.heap a its.toArray ∧ xs.length ≤ sizeLine := by
  rcases h with h | ⟨o, its, n, hk, hc, hs, hz, r⟩
  · obtain ⟨z, its, r, p⟩ := h.ok I.hok
    exact ⟨its, r, p, z⟩
  · refine ⟨its.toList, r, ⟨o, I.kIn a o hk, hc, n, by simpa using hs⟩, ?_⟩
    have e := r.length
    simp only [Array.length_toList] at e
    omega
theorem Inv.list_inj (I : Inv X pins σ H s) (h : SqL X.K H a xs) (h' : SqL X.K H a ys) : xs = ys := by
  obtain ⟨its, r, ⟨o, n, e, _, _, d⟩, _⟩ := I.list h
  obtain ⟨its', r', ⟨o', n', e', _, _, d'⟩, _⟩ := I.list h'
  rw [e] at e'; cases e'
  rw [d] at d'
  injection d' with d1 _
  have : its = its' := by simpa using congrArg Array.toList d1
  subst this
  exact r.inj r'
end

noncomputable abbrev Cx.wish (X : Cx) (E : Value → Shared → Prop) : Cx := { X with xe := E }
noncomputable abbrev Cx.nox (X : Cx) : Cx := X.wish fun _ _ => False
theorem Cx.Ok.wish {X : Cx} (ok : X.Ok) (E : Value → Shared → Prop) : (X.wish E).Ok :=
  ⟨ok.mod, ok.kind, ok.glob, ok.blt, ok.above, ok.inj, ok.has, ok.cab, ok.hd, ok.frames, ok.stk, ok.exf, ok.bs, ok.bsz, ok.noex, ok.exfs, ok.funs, ok.frf⟩
theorem Cx.Ok.unwish {X : Cx} {E : Value → Shared → Prop} (ok : (X.wish E).Ok) : X.Ok :=
  ⟨ok.mod, ok.kind, ok.glob, ok.blt, ok.above, ok.inj, ok.has, ok.cab, ok.hd, ok.frames, ok.stk, ok.exf, ok.bs, ok.bsz, ok.noex, ok.exfs, ok.funs, ok.frf⟩
section
variable {X : Cx} {pins : List (Addr × Obj)} {σ : St} {H : Hp} {s : Shared} {E : Value → Shared → Prop}
theorem Inv.wish (I : Inv X pins σ H s) (E : Value → Shared → Prop) : Inv (X.wish E) pins σ H s := ⟨I.ok.wish E, I.os, I.bare, I.base, I.loc, I.cell, I.free, I.freeC, I.pin, I.hok, I.len⟩
theorem Inv.unwish (I : Inv (X.wish E) pins σ H s) : Inv X pins σ H s := ⟨I.ok.unwish, I.os, I.bare, I.base, I.loc, I.cell, I.free, I.freeC, I.pin, I.hok, I.len⟩
theorem SP.unwish {D : Ends} {f : Flow} {s' : Shared} (h : SP (X.wish E) pins D f s') : SP X pins D f s' := by
  cases f with
  | next => obtain ⟨σ', H', I, q⟩ := h; exact ⟨σ', H', I.unwish, q⟩
  | brk => obtain ⟨σ', H', I, q⟩ := h; exact ⟨σ', H', I.unwish, q⟩
  | cont => obtain ⟨σ', H', I, q⟩ := h; exact ⟨σ', H', I.unwish, q⟩
  | ret u => obtain ⟨v, σ', H', I, r, q⟩ := h; exact ⟨v, σ', H', I.unwish, r, q⟩
theorem PE.nox {e : Expr} {t : TE} (h : PE X.nox e t) : PE X e t := fun pins s σ H Q I hw =>
  wpAny_mono (h pins s σ H Q (I.wish _) hw) (fun _ _ ⟨v, H', I', r, q⟩ => ⟨v, H', I'.unwish, r, q⟩) fun _ _ z => False.elim z
theorem PT.nox {e : Expr} {t : TT} (h : PT X.nox e t) : PT X e t := fun pins s σ H Q I hw =>
  wpAny_mono (h pins s σ H Q (I.wish _) hw) (fun _ _ ⟨H', I', q⟩ => ⟨H', I'.unwish, q⟩) fun _ _ z => False.elim z
theorem PSs.nox {st : List Stmt} {t : TS} (h : PSs X.nox st t) : PSs X st t := fun pins s σ H D I hw =>
  wpAny_mono (h pins s σ H D (I.wish _) hw) (fun _ _ q => q.unwish) fun _ _ z => False.elim z
end

section
variable {X : Cx} {st : Stmt} {rest : List Stmt} {t u : TS} {e : Expr} {te : TE} {pos : Pos}
noncomputable def tNext : TS := fun D σ H => D.nx σ H
noncomputable def tSeq (t u : TS) : TS := fun D σ H => t { D with nx := u D } σ H
theorem pss_nil : PSs X [] tNext := fun _ _ σ H _ I h => wpAny_execs_nil ⟨σ, H, I, h⟩
theorem pss_cons (h1 : PS X st t) (h2 : PSs X rest u) : PSs X (st :: rest) (tSeq t u) := by
  intro pins s σ H D I h
  refine wpAny_execs_cons (thn (h1 pins s σ H { D with nx := u D } I h) fun f s1 q => ?_)
  cases f with
  | next =>
    obtain ⟨σ', H', I', q⟩ := q
    exact h2 pins s1 σ' H' D I' q
  | ret v => exact q
  | brk => exact q
  | cont => exact q
theorem pss_one (h1 : PS X st t) : PSs X [st] t := by
  intro pins s σ H D I h
  refine wpAny_execs_cons (thn (h1 pins s σ H D I h) fun f s1 q => ?_)
  cases f with
  | next => exact wpAny_execs_nil q
  | ret v => exact q
  | brk => exact q
  | cont => exact q
theorem Inv.quiet {pins : List (Addr × Obj)} {σ : St} {H : Hp} {s : Shared} (I : Inv X pins σ H s) : interactive X.env = false := by simp [interactive, I.ok.kind]
noncomputable def tDrop (te : TE) : TS := fun D σ H => te σ H fun _ H1 => D.nx σ H1
theorem ps_expr (he : PE X e te) (hs : swapsWith e none pos.line X.env = pure false := by rfl) : PS X (.Expr e pos) (tDrop te) := by
  intro pins s σ H D I h
  exact wpAny_Expr_any (thn (he pins s σ H _ I h) fun v s1 ⟨x, H1, I1, r1, q1⟩ => ⟨σ, H1, I1, q1⟩) I.quiet hs
noncomputable def tRet (te : TE) : TS := fun D σ H => te σ H D.rt
theorem ps_ret (he : PE X e te) : PS X (.Return (some e) pos) (tRet te) := by
  intro pins s σ H D I h
  exact wpAny_Return_some (thn (he pins s σ H _ I h) fun v s1 ⟨x, H1, I1, r1, q1⟩ => ⟨x, σ, H1, I1, r1, q1⟩)
noncomputable def tIfS (c : TT) (t u : TS) : TS := fun D σ H => c σ H fun b H1 => if b = true then t D σ H1 else u D σ H1
theorem ps_if {c : Expr} {a b : List Stmt} {tc : TT} (hc : PT X c tc) (ha : PSs X a t) (hb : PSs X b u) : PS X (.If c a b pos) (tIfS tc t u) := by
  intro pins s σ H D I h
  refine wpAny_If (thn (hc pins s σ H _ I h) fun d s1 ⟨H1, I1, q1⟩ => ?_)
  cases d with
  | true => exact ha pins s1 σ H1 D I1 q1
  | false => exact hb pins s1 σ H1 D I1 q1
end

noncomputable abbrev TG := V → St → Hp → (St → Hp → Prop) → Prop
noncomputable abbrev TGs := List V → St → Hp → (St → Hp → Prop) → Prop
noncomputable def PG (X : Cx) (target : Expr) (t : TG) : Prop :=
  ∀ (pins : List (Addr × Obj)) (s : Shared) (σ : St) (H : Hp) (v : V) (u : Value) (Q : St → Hp → Prop), Inv X pins σ H s → RelV v u → t v σ H Q →
    wpAny (model X.prog X.w) X.A (assign target X.env u) (fun _ s' => ∃ σ' H', Inv X pins σ' H' s' ∧ Q σ' H') X.xe s
noncomputable abbrev TSet := V → V → V → Hp → (Hp → Prop) → Prop
noncomputable def PSet (X : Cx) (t : TSet) : Prop :=
  ∀ (pins : List (Addr × Obj)) (s : Shared) (σ : St) (H : Hp) (o i v : V) (ov iv u : Value) (Q : Hp → Prop), Inv X pins σ H s → RelV o ov → RelV i iv → RelV v u → t o i v H Q →
    wpAny (model X.prog X.w) X.A (setItem ov iv u) (fun _ s' => ∃ H', Inv X pins σ H' s' ∧ Q H') X.xe s
section
variable {X : Cx} {pos : Pos}
noncomputable def gName (i : Nat) : TG := fun v σ H Q => Q (σ.set i (some v)) H
theorem pg_name {i : Nat} {x : Str} (hN : X.N.Nodup) (hi : X.N[i]? = some x) (hx : Loc X.env.scope x) (hf : X.fn x = true ∨ X.env.scope.names.lookup x = some .local := by first | exact .inl rfl | exact .inr rfl | assumption) : PG X (.Name x pos) (gName i) := by
  intro pins s σ H v u Q I r h
  exact wpAny_assign_Name (store_ok I hN hi hx r (fun s' I' => ⟨_, H, I', h⟩) hf)
noncomputable def gSub (to ti : TE) (t : TSet) : TG := fun v σ H Q => to σ H fun o H1 => ti σ H1 fun i H2 => t o i v H2 fun H3 => Q σ H3
theorem pg_sub {o i : Expr} {to ti : TE} {t : TSet} (ho : PE X o to) (hi : PE X i ti) (hs : PSet X t)
    (ha : ∀ v, assign (.Subscript o i pos) X.env v = (do
      let ov ← holding [v] (eval o X.env)
      let iv ← holding [v, ov] (eval i X.env)
      standAt pos
      holding [v, ov, iv] (setItem ov iv v)
      release [v, ov, iv] []) := by intro _; rfl) : PG X (.Subscript o i pos) (gSub to ti t) := by
  intro pins s σ H v u Q I r h
  rw [ha]
  refine wpAny_bind (wpAny_holding (thn (ho pins s σ H _ I h) fun ov s1 ⟨x, H1, I1, r1, q1⟩ => ?_))
  refine wpAny_bind (wpAny_holding (thn (hi pins s1 σ H1 _ I1 q1) fun iv s2 ⟨y, H2, I2, r2, q2⟩ => ?_))
  refine wpAny_bind (wpAny_standAt (wpAny_bind (wpAny_holding (thn (hs pins s2 σ H2 x y v ov iv u _ I2 r1 r2 r q2) fun _ s3 ⟨H3, I3, q3⟩ => ?_))))
  exact wpAny_release ⟨σ, H3, I3, q3⟩
noncomputable def tAsg (te : TE) (g : TG) : TS := fun D σ H => te σ H fun x H1 => g x σ H1 D.nx
theorem ps_asg {tg e : Expr} {te : TE} {g : TG} (he : PE X e te) (hg : PG X tg g) (hs : swapsWithSole [tg] e pos.line X.env = pure false := by rfl) (hw : swappedStores [tg] e X.env = pure none := by rfl)
    (h1 : (assignEach [tg] X.env).map (·.2) = [assign tg X.env] := by rfl) : PS X (.Assign [tg] e pos) (tAsg te g) := by
  intro pins s σ H D I h
  refine wpAny_Assign_stores (thn (he pins s σ H _ I h) fun v s1 ⟨x, H1, I1, r1, q1⟩ => ?_) hs hw
  rw [h1]
  exact thn (hg pins s1 σ H1 x v _ I1 r1 q1) fun _ s2 q => q
theorem ps_set {i : Nat} {x : Str} {e : Expr} {te : TE} {pos' : Pos} (hN : X.N.Nodup) (hi : X.N[i]? = some x) (hx : Loc X.env.scope x) (he : PE X e te) (hs : swapsWith e (some (.Name x pos')) pos.line X.env = pure false := by rfl) (hf : X.fn x = true ∨ X.env.scope.names.lookup x = some .local := by first | exact .inl rfl | exact .inr rfl | assumption) :
    PS X (.Assign [.Name x pos'] e pos) (tAsg te (gName i)) := by
  intro pins s σ H D I h
  refine wpAny_Assign_Name (thn (he pins s σ H _ I h) fun v s1 ⟨y, H1, I1, r1, q1⟩ => ?_) hs
  exact store_ok I1 hN hi hx r1 (fun s2 I2 => ⟨_, H1, I2, q1⟩) hf
end

section
variable {X : Cx} {pos : Pos}
end

structure It where
  go : Nat → Hp → Prop
  yld : Nat → Hp → V → Hp → Prop
  stop : Nat → Hp → Prop
noncomputable def FpOk (X : Cx) (pins : List (Addr × Obj)) (H : Hp) (b : Addr) : Prop :=
  H b = none ∧ b ≠ X.env.locals ∧ b ∉ X.fs ∧ (b ∈ X.ex ∨ X.s₀.heap.objs.size ≤ b) ∧ (∀ x c, X.env.cells.lookup x = some c → c ≠ b) ∧ ∀ p ∈ X.pn ++ pins, p.1 ≠ b
theorem Inv.fpOk {X : Cx} {pins : List (Addr × Obj)} {σ : St} {H H' : Hp} {s : Shared} {b : Addr} (I : Inv X pins σ H s) (hb : s.heap.objs.size ≤ b) (hn : H' b = none) : FpOk X pins H' b := by
  refine ⟨hn, Nat.ne_of_gt (Nat.lt_of_lt_of_le I.lt hb), I.nofs hb, .inr (Nat.le_trans I.sz hb), fun x c e z => ?_, fun p hp z => ?_⟩
  · obtain ⟨v, q⟩ := I.cell x c e
    exact absurd (Nat.lt_of_lt_of_le q.lt (by rw [z]; exact hb)) (Nat.lt_irrefl _)
  · exact absurd (Nat.lt_of_lt_of_le (Heap.lt_size (I.pin p hp).1) (by rw [z]; exact hb)) (Nat.lt_irrefl _)
structure Turn (P : Program) (w : World) (K : PySem.W.Frag) (tg : Expr) (J : It) (fp : List Addr) (it : Addr) (tn : Nat → Heap → Prop) : Prop where
  mem : it ∈ fp
  obj : ∀ i h, tn i h → ∀ b ∈ fp, ∃ o, h.get? b = some o ∧ ∀ v, o.data ≠ .cell v
  keep : ∀ i h h', tn i h → (∀ b ∈ fp, ∀ o, h.get? b = some o → h'.get? b = some o) → tn i h'
  item : ∀ (X : Cx), X.prog = P → X.w = w → X.K = K → X.calm = true → ∀ (i : Nat) (pins : List (Addr × Obj)) (s : Shared) (σ : St) (H : Hp) (E : Value → Shared → Prop), Inv X pins σ H s → (∀ b ∈ fp, FpOk X pins H b) → tn i s.heap → J.go i H →
    wpAny (model P w) X.A (pyNext (.ref it)) (fun r s1 => ∃ u, r = some u ∧
      wpAny (model P w) X.A (letOwnedTupleGo tg (.ref it) u) (fun _ s2 => ∃ x H', Inv X pins σ H' s2 ∧ RelV x u ∧ J.yld i H x H' ∧ tn (i + 1) s2.heap ∧ ∀ b ∈ fp, H' b = none) E s1) E s
  done : ∀ (X : Cx), X.prog = P → X.w = w → X.K = K → X.calm = true → ∀ (i : Nat) (pins : List (Addr × Obj)) (s : Shared) (σ : St) (H : Hp) (E : Value → Shared → Prop), Inv X pins σ H s → (∀ b ∈ fp, FpOk X pins H b) → tn i s.heap → J.stop i H →
    wpAny (model P w) X.A (pyNext (.ref it)) (fun r s1 => r = none ∧ Inv X pins σ H s1) E s
  self : ∀ (A : Around) (i : Nat) (s : Shared) (Q : Value → Shared → Prop) (E : Value → Shared → Prop), tn i s.heap → Q (.ref it) s → wpAny (model P w) A (pyIter (.ref it)) Q E s
noncomputable abbrev TI := St → Hp → (It → Hp → Prop) → Prop
noncomputable def PIE (X : Cx) (pins : List (Addr × Obj)) (σ : St) (tg : Expr) (R : It → Hp → Prop) (itv : Value) (s2 : Shared) : Prop :=
  ∃ (it : Addr) (fp : List Addr) (tn : Nat → Heap → Prop) (J : It) (H' : Hp), itv = .ref it ∧ Inv X pins σ H' s2 ∧ Turn X.prog X.w X.K tg J fp it tn ∧ tn 0 s2.heap ∧ (∀ b ∈ fp, FpOk X pins H' b) ∧ R J H'
noncomputable def PI (X : Cx) (tg iter : Expr) (wi : TI) : Prop :=
  ∀ (pins : List (Addr × Obj)) (s : Shared) (σ : St) (H : Hp) (R : It → Hp → Prop), Inv X pins σ H s → wi σ H R →
    wpAny (model X.prog X.w) X.A (eval iter X.env) (fun v s1 => wpAny (model X.prog X.w) X.A (pyIter v) (PIE X pins σ tg R) X.xe s1) X.xe s

theorem go_of {M : Model} {A : Around} {E : Value → Shared → Prop} {s : Shared} {tg : Expr} {it : Addr} {u : Value} {o : Obj} {n : String} {vs : Array Value} {Q : Unit → Shared → Prop} (ho : s.heap.get? it = some o) (hc : o.cls = .type n) (hd : o.data = .fields vs)
    (hn : ["enumerate", "zip", "dict_itemiterator", "dict_reverseitemiterator", "odict_iterator", "itertools.zip_longest", "itertools.pairwise"].contains n = false) (hQ : Q () s) : wpAny M A (letOwnedTupleGo tg (.ref it) u) Q E s := by
  unfold letOwnedTupleGo
  cases tg <;> first
    | exact wpAny_pure hQ
    | (cases u <;> first
        | exact wpAny_pure hQ
        | (refine wpAny_bind (wpAny_load ho ?_)
           rw [hc, hd]
           show wpAny M A (if (["enumerate", "zip", "dict_itemiterator", "dict_reverseitemiterator", "odict_iterator", "itertools.zip_longest", "itertools.pairwise"].contains n && vs[0]? == some (rawInt _)) = true then _ else _) Q E s
           rw [if_neg (by intro h; rw [hn, Bool.false_and] at h; cases h)]
           exact wpAny_pure hQ))

noncomputable def Itl (K : PySem.W.Frag) (a : Addr) : It :=
  ⟨fun i H => ∃ xs x, SqL K H a xs ∧ xs[i]? = some x, fun i H x H' => H' = H ∧ ∀ xs, SqL K H a xs → xs[i]? = some x, fun i H => ∃ xs, SqL K H a xs ∧ xs.length ≤ i⟩
noncomputable def Itr (lo : Int) (n : Nat) : It := ⟨fun i _ => i < n, fun i H x H' => H' = H ∧ x = .int (lo + i), fun i _ => n ≤ i⟩
theorem turn_list {P : Program} {w : World} {K : PySem.W.Frag} {tg : Expr} (a it : Addr) : Turn P w K tg (Itl K a) [it] it (fun i h => h.IsListIter it a i) where
  mem := by simp
  obj := fun i h st b hb => by
    have e : b = it := by simpa using hb
    subst e
    obtain ⟨o, e, c, d⟩ := st
    exact ⟨o, e, fun v z => by rw [d] at z; cases z⟩
  keep := fun i h h' st k => st.at fun o e => k it (by simp) o e
  item := by
    intro X hP hw hK hc i pins s σ H E I hf st hg
    subst hP hw hK
    obtain ⟨xs, x, hq, hx⟩ := hg
    obtain ⟨its, rv, p, hz⟩ := I.list hq
    obtain ⟨u, hu, ru⟩ := rv.get hx
    obtain ⟨f0, f1, f2, f3, f4, f5⟩ := hf it (by simp)
    refine wpAny_pyNext_list_item st p.isList (x := u) (by simpa using hu) fun h' st' sb => ?_
    have I1 : Inv X pins σ H { s with heap := h' } := I.turned (t' := s.toks) (fun b o hb e => (sb.2 b hb).trans e) f0 f1 f3 f4 f5
    obtain ⟨o, e, c, d⟩ := id st'
    exact ⟨u, rfl, go_of (s := { s with heap := h' }) e c d (by decide) ⟨x, H, I1, ru, ⟨rfl, fun ys hy => by rw [I.list_inj hy hq]; exact hx⟩, st', fun b hb => (hf b hb).1⟩⟩
  done := by
    intro X hP hw hK hc i pins s σ H E I hf st hg
    subst hP hw hK
    obtain ⟨xs, hq, hx⟩ := hg
    obtain ⟨its, rv, p, hz⟩ := I.list hq
    obtain ⟨f0, f1, f2, f3, f4, f5⟩ := hf it (by simp)
    have hl := rv.length
    exact wpAny_pyNext_list_end (I.ok.hd hc) st p.isList (by simp; omega) fun h' eb => ⟨rfl, I.turned (t' := s.toks) (fun b o hb e => eb b o hb e) f0 f1 f3 f4 f5⟩
  self := fun _ _ _ _ _ st h => wpAny_pyIter_listiter st h
theorem turn_range {P : Program} {w : World} {K : PySem.W.Frag} {tg : Expr} (it : Addr) (lo : Int) (n : Nat) : Turn P w K tg (Itr lo n) [it] it (fun i h => IsRangeIter h it (lo + (i : Nat) * 1) ((n : Int) - (i : Nat)) 1) where
  mem := by simp
  obj := fun i h st b hb => by
    have e : b = it := by simpa using hb
    subst e
    exact ⟨_, st, fun v z => by
      have z' : Data.fields _ = Data.cell v := z
      cases z'⟩
  keep := fun i h h' st k => k it (by simp) _ st
  item := by
    intro X hP hw hK hc i pins s σ H E I hf st hg
    subst hP hw hK
    obtain ⟨f0, f1, f2, f3, f4, f5⟩ := hf it (by simp)
    have W := Walks.range (prog := X.prog) (w := X.w) (I.ok.hd hc) it lo 1 n
    refine W.item i s _ _ hg st fun v h' tk hv st' kk => ?_
    obtain ⟨t, rfl⟩ := hv
    have I1 : Inv X pins σ H { s with heap := h', toks := tk } := I.turned (fun b o hb e => kk b o (by simpa using hb) e) f0 f1 f3 f4 f5
    refine ⟨_, rfl, go_of (s := { s with heap := h', toks := tk }) (n := "range_iterator") st' rfl rfl (by decide) ⟨.int (lo + i), H, I1, ⟨t, ?_⟩, ⟨rfl, rfl⟩, st', fun b hb => (hf b hb).1⟩⟩
    rw [Int.mul_one]
  done := by
    intro X hP hw hK hc i pins s σ H E I hf st hg
    subst hP hw hK
    obtain ⟨f0, f1, f2, f3, f4, f5⟩ := hf it (by simp)
    exact wpAny_pyNext_range_end (I.ok.hd hc) st (by have : n ≤ i := hg; omega) fun h' eb => ⟨rfl, I.turned (t' := s.toks) (fun b o hb e => eb b o hb e) f0 f1 f3 f4 f5⟩
  self := fun _ _ _ _ _ st h => wpAny_pyIter_rangeiter st h
end L2

namespace L2
open PySem PySem.Spec PyProof.Rows
section
variable {X : Cx} {tg : Expr}
noncomputable def iList (K : PySem.W.Frag) (tl : TE) : TI := fun σ H R => tl σ H fun x H1 => ∃ a, x = .ref a ∧ (∃ xs, SqL K H1 a xs) ∧ R (Itl K a) H1
theorem pi_list {l : Expr} {tl : TE} (hl : PE X l tl) : PI X tg l (iList X.K tl) := by
  intro pins s σ H R I h
  refine thn (hl pins s σ H _ I h) fun v s1 ⟨x, H1, I1, r1, q1⟩ => ?_
  obtain ⟨a, e, ⟨xs, hq⟩, q⟩ := q1
  subst e
  cases r1
  obtain ⟨its, rv, p, hz⟩ := I1.list hq
  refine wpAny_pyIter_list p.isList ?_
  refine ⟨s1.heap.objs.size, [s1.heap.objs.size], _, _, H1, rfl, I1.kept (t' := s1.toks) fun b o e => Heap.get?_push_of_some _ e, turn_list a _, ⟨_, Heap.get?_push_size _ rfl, rfl, rfl⟩, fun b hb => ?_, q⟩
  have e : b = s1.heap.objs.size := by simpa using hb
  subst e
  exact I1.fpOk (Nat.le_refl _) (I1.hok.fresh (Nat.le_refl _))
theorem range_it {pins : List (Addr × Obj)} {σ : St} {H : Hp} {s : Shared} {R : It → Hp → Prop} {E : Value → Shared → Prop} {lo hi : Int} {t u v : Tok} {tk : Nat} (I : Inv X pins σ H s) (h1 : -(2 ^ 62) ≤ lo) (h2 : lo < 2 ^ 62) (h3 : -(2 ^ 62) ≤ hi) (h4 : hi < 2 ^ 62)
    (q : R (Itr lo (hi - lo).toNat) H) : wpAny (model X.prog X.w) X.A (pyIter (.ref s.heap.objs.size)) (PIE X pins σ tg R) E { s with heap := s.heap.push { cls := .type "range", data := .fields #[.int lo t, .int hi u, .int 1 v] }, toks := tk } := by
  refine wpAny_pyIter_range (IsRange.new ..) (small_one h1 h2 h3 h4) ?_
  have I1 : Inv X pins σ H { s with heap := s.heap.push { cls := .type "range", data := .fields #[.int lo t, .int hi u, .int 1 v] }, toks := tk } := I.kept fun b o e => Heap.get?_push_of_some _ e
  refine ⟨(s.heap.push { cls := .type "range", data := .fields #[.int lo t, .int hi u, .int 1 v] }).objs.size, [(s.heap.push { cls := .type "range", data := .fields #[.int lo t, .int hi u, .int 1 v] }).objs.size], _, _, H, rfl,
    I1.kept (t' := tk) fun b o e => Heap.get?_push_of_some _ e, turn_range _ lo (hi - lo).toNat, ?_, fun b hb => ?_, q⟩
  · have e1 : lo + ((0 : Nat) : Int) * 1 = lo := by simp
    have e2 : (((hi - lo).toNat : Nat) : Int) - ((0 : Nat) : Int) = Builtin.Range.rangeSize lo hi 1 := by rw [rangeSize_one]; split <;> omega
    show IsRangeIter _ _ (lo + ((0 : Nat) : Int) * 1) ((((hi - lo).toNat : Nat) : Int) - ((0 : Nat) : Int)) 1
    rw [e1, e2]
    exact Heap.get?_push_size _ rfl
  · have e : b = (s.heap.push { cls := .type "range", data := .fields #[.int lo t, .int hi u, .int 1 v] }).objs.size := by simpa using hb
    subst e
    exact I1.fpOk (Nat.le_refl _) (I1.hok.fresh (Nat.le_refl _))
noncomputable def iRng1 (ta : TA) : TI := fun σ H R => ta σ H fun vs H1 => ∃ j : Int, vs = [.int j] ∧ -(2 ^ 62) ≤ j ∧ j < 2 ^ 62 ∧ R (Itr 0 j.toNat) H1
theorem pi_range1 {a : Expr} {ta : TA} {p pos : Pos} (hg : Gl X "range") (hm : X.mg "range" = none) (ha : PA X [a] ta) (hs : starEach [a] X.env = [(false, eval a X.env)] := by rfl) : PI X tg (.Call (.Name "range" p) [a] [] pos) (iRng1 ta) := by
  intro pins s σ H R I h
  refine Call_ (ld_blt I hg hm boot_range (PyProof.Rows.callWith_type1 (thn (ha pos pins s σ H _ I h) fun us s1 ⟨vs, H1, I1, r1, q1⟩ => ?_) hs rfl))
  obtain ⟨j, e, q1, q2, q⟩ := q1
  subst e
  cases r1 with
  | cons r rr =>
    cases rr
    obtain ⟨t, rfl⟩ := r
    exact call_range_1 (range_it I1 (by omega) (by omega) q1 q2 (by simpa using q))
noncomputable def tFor (wi : TI) (g : TG) (tb : TS) : TS := fun D σ H => wi σ H fun J H1 => ∃ W : Nat → Nat → St → Hp → Prop, (∃ m, W 0 m σ H1) ∧ ∀ i m σ H, W i m σ H →
  (J.stop i H ∧ D.nx σ H) ∨ (J.go i H ∧ ∃ N : St → Hp → Prop, (∀ σ' H', N σ' H' → ∃ m', m' < m ∧ W (i + 1) m' σ' H') ∧ ∀ x H', J.yld i H x H' → g x σ H' fun σ2 H2 => tb { D with nx := N, ct := N, bk := D.nx } σ2 H2)
noncomputable def pinsAt (fp : List Addr) (h : Heap) : List (Addr × Obj) := fp.filterMap fun b => (h.get? b).map fun o => (b, o)
theorem mem_pinsAt {fp : List Addr} {h : Heap} {b : Addr} {o : Obj} (hb : b ∈ fp) (e : h.get? b = some o) : (b, o) ∈ pinsAt fp h := List.mem_filterMap.mpr ⟨b, hb, by rw [e]; rfl⟩
theorem of_pinsAt {fp : List Addr} {h : Heap} {p : Addr × Obj} (hp : p ∈ pinsAt fp h) : p.1 ∈ fp ∧ h.get? p.1 = some p.2 := by
  obtain ⟨b, hb, e⟩ := List.mem_filterMap.mp hp
  cases q : h.get? b with
  | none => rw [q] at e; cases e
  | some o =>
    rw [q] at e
    have e' : (b, o) = p := Option.some.inj e
    subst e'
    exact ⟨hb, q⟩
theorem Inv.pinned {pins : List (Addr × Obj)} {σ : St} {H : Hp} {s : Shared} {fp : List Addr} (I : Inv X pins σ H s) (hf : ∀ b ∈ fp, FpOk X pins H b) (ho : ∀ b ∈ fp, ∃ o, s.heap.get? b = some o ∧ ∀ v, o.data ≠ .cell v) : Inv X (pins ++ pinsAt fp s.heap) σ H s :=
  I.pins_of fun p hp => (List.mem_append.mp hp).elim (fun z => I.pin p (List.mem_append_right _ z)) fun z => by
    obtain ⟨hb, e⟩ := of_pinsAt z
    obtain ⟨f0, f1, f2, _⟩ := hf p.1 hb
    obtain ⟨o, e', d⟩ := ho p.1 hb
    rw [e] at e'; cases e'
    exact ⟨e, f0, f1, f2, d⟩
theorem Inv.unpinned {pins pl : List (Addr × Obj)} {σ : St} {H : Hp} {s : Shared} (I : Inv X (pins ++ pl) σ H s) : Inv X pins σ H s := I.pins_of fun p hp => I.pin p (List.mem_append_right _ (List.mem_append_left _ hp))
theorem ps_for {iter : Expr} {body : List Stmt} {wi : TI} {g : TG} {tb : TS} {pos : Pos} (hp : PassesOwn (model X.prog X.w) X.A X.env X.xe) (hc : X.calm = true) (hi : PI X tg iter wi) (hg : PG X tg g) (hb : PSs X body tb)
    (hs : ∀ x, foldedSetIterable iter X.env x = pure x := by intro _; rfl) : PS X (.For tg iter body [] pos) (tFor wi g tb) := by
  intro pins s σ H D I h
  refine wpAny_For (thn (hi pins s σ H _ I h) fun v s1 h1 => thn h1 fun itv s2 h2 => ?_) hs
  obtain ⟨it, fp, tn, J, H2, e, I2, T, st2, f2, W, ⟨m0, w0⟩, turn⟩ := h2
  subst e
  -- what stays true of the iterator's objects through the loop
  have stat : ∀ {H' : Hp}, (∀ b ∈ fp, H' b = none) → ∀ b ∈ fp, FpOk X pins H' b := fun hn b hb => ⟨hn b hb, (f2 b hb).2⟩
  refine codeAny_forLoop_any (fun n s' => ∃ i σ' H', Inv X pins σ' H' s' ∧ tn i s'.heap ∧ (∀ b ∈ fp, H' b = none) ∧ W i n σ' H') ?_ m0 ⟨0, σ, H2, I2, st2, fun b hb => (f2 b hb).1, w0⟩
  rintro n s3 ⟨i, σ3, H3, I3, st3, fr3, w3⟩
  rcases turn i n σ3 H3 w3 with ⟨stop, qn⟩ | ⟨go, N, hN, step⟩
  · refine wpAny_passesOwn hp (thn (T.done X rfl rfl rfl hc i pins s3 σ3 H3 X.xe I3 (stat fr3) st3 stop) fun r s4 ⟨hr, I4⟩ => ?_)
    subst hr
    exact wpAny_execs_nil ⟨σ3, H3, I4, qn⟩
  · refine wpAny_passesOwn hp (thn (T.item X rfl rfl rfl hc i pins s3 σ3 H3 X.xe I3 (stat fr3) st3 go) fun r s4 ⟨u, hr, h4⟩ => ?_)
    subst hr
    refine wpAny_passesOwn hp (thn h4 fun _ s5 ⟨x, H5, I5, r5, y5, st5, fr5⟩ => ?_)
    have I5' := I5.pinned (stat fr5) (T.obj _ _ st5)
    refine wpAny_passesOwn hp (thn (hg _ s5 σ3 H5 x u _ I5' r5 (step x H5 y5)) fun _ s6 ⟨σ6, H6, I6, q6⟩ => ?_)
    refine wpAny_passesOwn hp (thn (hb _ s6 σ6 H6 _ I6 q6) fun f s7 q7 => ?_)
    have again : ∀ {σ7 : St} {H7 : Hp}, Inv X (pins ++ pinsAt fp s5.heap) σ7 H7 s7 → N σ7 H7 → ∃ m, m < n ∧ ∃ i σ' H', Inv X pins σ' H' s7 ∧ tn i s7.heap ∧ (∀ b ∈ fp, H' b = none) ∧ W i m σ' H' := fun {σ7 H7} I7 n7 => by
      obtain ⟨m', hm, w7⟩ := hN σ7 H7 n7
      refine ⟨m', hm, i + 1, σ7, H7, I7.unpinned, T.keep _ _ _ st5 fun b hb o e => (I7.pin (b, o) (List.mem_append_right _ (List.mem_append_right _ (mem_pinsAt hb e)))).1, fun b hb => ?_, w7⟩
      obtain ⟨o, e, d⟩ := T.obj _ _ st5 b hb
      exact (I7.pin (b, o) (List.mem_append_right _ (List.mem_append_right _ (mem_pinsAt hb e)))).2.1
    cases f with
    | next => obtain ⟨σ7, H7, I7, n7⟩ := q7; exact again I7 n7
    | cont => obtain ⟨σ7, H7, I7, n7⟩ := q7; exact again I7 n7
    | brk => obtain ⟨σ7, H7, I7, q7⟩ := q7; exact ⟨σ7, H7, I7.unpinned, q7⟩
    | ret v => obtain ⟨x7, σ7, H7, I7, r7, q7⟩ := q7; exact ⟨x7, σ7, H7, I7.unpinned, r7, q7⟩
end

theorem for_list {K : PySem.W.Frag} {a : Addr} {xs : List V} {g : TG} {tb : TS} {D : Ends} {σ : St} {H : Hp} (Pv : Nat → St → Hp → Prop) (h0 : Pv 0 σ H) (hl : ∀ i σ H, i ≤ xs.length → Pv i σ H → SqL K H a xs)
    (hs : ∀ i x σ H, xs[i]? = some x → Pv i σ H → g x σ H fun σ2 H2 => tb { D with nx := Pv (i + 1), ct := Pv (i + 1), bk := D.nx } σ2 H2) (hd : ∀ σ H, Pv xs.length σ H → D.nx σ H) :
    ∃ W : Nat → Nat → St → Hp → Prop, (∃ m, W 0 m σ H) ∧ ∀ i m σ H, W i m σ H →
      ((Itl K a).stop i H ∧ D.nx σ H) ∨ ((Itl K a).go i H ∧ ∃ N : St → Hp → Prop, (∀ σ' H', N σ' H' → ∃ m', m' < m ∧ W (i + 1) m' σ' H') ∧ ∀ x H', (Itl K a).yld i H x H' → g x σ H' fun σ2 H2 => tb { D with nx := N, ct := N, bk := D.nx } σ2 H2) := by
  refine ⟨fun i m σ H => m = xs.length - i ∧ i ≤ xs.length ∧ Pv i σ H, ⟨xs.length, by simp, Nat.zero_le _, h0⟩, ?_⟩
  rintro i m σ H ⟨rfl, hi, p⟩
  have q := hl i σ H hi p
  by_cases hlt : i < xs.length
  · refine .inr ⟨⟨xs, xs[i], q, by simp [hlt]⟩, Pv (i + 1), fun σ' H' p' => ⟨xs.length - (i + 1), by omega, rfl, hlt, p'⟩, fun x H' y => ?_⟩
    obtain ⟨e, y⟩ := y
    subst e
    exact hs i x σ _ (y xs q) p
  · have e : i = xs.length := by omega
    subst e
    exact .inl ⟨⟨xs, q, Nat.le_refl _⟩, hd σ H p⟩
end L2

namespace L2
open PySem PySem.Spec PyProof.Rows

noncomputable abbrev R2 := V → V → Hp → VK → Prop
noncomputable def OpR (X : Cx) (f : Value → Value → Sem Value) (r : R2) : Prop :=
  ∀ (pins : List (Addr × Obj)) (s : Shared) (σ : St) (H : Hp) (x y : V) (v u : Value) (Q : VK), Inv X pins σ H s → RelV x v → RelV y u → r x y H Q →
    wpAny (model X.prog X.w) X.A (f v u) (EP X pins σ Q) X.xe s
noncomputable def UnR (X : Cx) (f : Value → Sem Value) (r : V → Hp → VK → Prop) : Prop :=
  ∀ (pins : List (Addr × Obj)) (s : Shared) (σ : St) (H : Hp) (x : V) (v : Value) (Q : VK), Inv X pins σ H s → RelV x v → r x H Q →
    wpAny (model X.prog X.w) X.A (f v) (EP X pins σ Q) X.xe s
noncomputable def CallR (X : Cx) (f : Value) (r : List V → Hp → VK → Prop) : Prop :=
  ∀ (pins : List (Addr × Obj)) (s : Shared) (σ : St) (H : Hp) (xs : List V) (us : List Value) (Q : VK), Inv X pins σ H s → Vals xs us → r xs H Q →
    wpAny (model X.prog X.w) X.A (call f us) (EP X pins σ Q) X.xe s
noncomputable def tOp (r : R2) (ta tb : TE) : TE := fun σ H Q => ta σ H fun x H1 => tb σ H1 fun y H2 => r x y H2 Q
noncomputable def tUn (r : V → Hp → VK → Prop) (ta : TE) : TE := fun σ H Q => ta σ H fun x H1 => r x H1 Q
noncomputable def rI (C : Int → Int → Prop) (g : Int → Int → V) : R2 := fun x y H Q => ∃ i j, x = .int i ∧ y = .int j ∧ C i j ∧ Q (g i j) H
noncomputable def rI0 (g : Int → Int → V) : R2 := fun x y H Q => ∃ i j, x = .int i ∧ y = .int j ∧ Q (g i j) H
noncomputable def rU (g : Int → V) : V → Hp → VK → Prop := fun x H Q => ∃ i, x = .int i ∧ Q (g i) H

section
variable {X : Cx} {a b c : Expr} {ta tb tc : TE} {pos : Pos}

theorem binT (ha : PE X a ta) (hb : PE X b tb) {pins : List (Addr × Obj)} {s : Shared} {σ : St} {H : Hp} {R : V → V → Hp → Prop} (I : Inv X pins σ H s)
    (h : ta σ H fun x H1 => tb σ H1 fun y H2 => R x y H2) {Q : Value → Shared → Prop} {f : Value → Value → Sem Value}
    (hf : ∀ v u s2 x y H2, Inv X pins σ H2 s2 → RelV x v → RelV y u → R x y H2 → wpAny (model X.prog X.w) X.A (f v u) Q X.xe s2) :
    wpAny (model X.prog X.w) X.A (eval a X.env) (fun v s₁ => wpAny (model X.prog X.w) X.A (eval b X.env) (fun u s₂ => wpAny (model X.prog X.w) X.A (f v u) Q X.xe s₂) X.xe s₁) X.xe s := by
  refine thn (ha pins s σ H _ I h) fun v s1 ⟨x, H1, I1, r1, q1⟩ => ?_
  refine thn (hb pins s1 σ H1 _ I1 q1) fun u s2 ⟨y, H2, I2, r2, q2⟩ => ?_
  exact hf v u s2 x y H2 I2 r1 r2 q2

theorem pe_op {op : Operator} {r : R2} (ho : OpR X (binaryOp op) r) (ha : PE X a ta) (hb : PE X b tb) : PE X (.BinOp a op b pos) (tOp r ta tb) := by
  intro pins s σ H Q I h
  exact wpAny_BinOp (binT ha hb I h fun v u s2 x y H2 I2 rx ry q => ho pins s2 σ H2 x y v u Q I2 rx ry q)
theorem pe_un {op : UnaryOp} {r : V → Hp → VK → Prop} (ho : UnR X (unaryOp op) r) (ha : PE X a ta) : PE X (.UnaryOp op a pos) (tUn r ta) := by
  intro pins s σ H Q I h
  exact UnaryOp_ (thn (ha pins s σ H _ I h) fun v s1 ⟨x, H1, I1, r1, q1⟩ => ho pins s1 σ H1 x v Q I1 r1 q1)
theorem opI {f : Value → Value → Sem Value} {C : Int → Int → Prop} {g : Int → Int → Int}
    (rule : ∀ (i j : Int) (t u : Tok) (s : Shared) (Q : Value → Shared → Prop) (E : Value → Shared → Prop), C i j → Q (.int (g i j) s.toks) { s with toks := s.toks + 1 } → wpAny (model X.prog X.w) X.A (f (.int i t) (.int j u)) Q E s) :
    OpR X f (rI C fun i j => .int (g i j)) := by
  intro pins s σ H x y v u Q I rx ry h
  obtain ⟨i, j, rfl, rfl, hc, q⟩ := h
  obtain ⟨t, rfl⟩ := rx
  obtain ⟨t', rfl⟩ := ry
  exact rule i j t t' s _ _ hc ⟨.int (g i j), H, I.tok _, ⟨_, rfl⟩, q⟩
theorem opI0 {f : Value → Value → Sem Value} {g : Int → Int → Int}
    (rule : ∀ (i j : Int) (t u : Tok) (s : Shared) (Q : Value → Shared → Prop) (E : Value → Shared → Prop), Q (.int (g i j) s.toks) { s with toks := s.toks + 1 } → wpAny (model X.prog X.w) X.A (f (.int i t) (.int j u)) Q E s) :
    OpR X f (rI0 fun i j => .int (g i j)) := by
  intro pins s σ H x y v u Q I rx ry h
  obtain ⟨i, j, rfl, rfl, q⟩ := h
  obtain ⟨t, rfl⟩ := rx
  obtain ⟨t', rfl⟩ := ry
  exact rule i j t t' s _ _ ⟨.int (g i j), H, I.tok _, ⟨_, rfl⟩, q⟩
theorem opB0 {f : Value → Value → Sem Value} {g : Int → Int → Bool}
    (rule : ∀ (i j : Int) (t u : Tok) (s : Shared) (Q : Value → Shared → Prop) (E : Value → Shared → Prop), Q (.bool (g i j)) s → wpAny (model X.prog X.w) X.A (f (.int i t) (.int j u)) Q E s) :
    OpR X f (rI0 fun i j => .bl (g i j)) := by
  intro pins s σ H x y v u Q I rx ry h
  obtain ⟨i, j, rfl, rfl, q⟩ := h
  obtain ⟨t, rfl⟩ := rx
  obtain ⟨t', rfl⟩ := ry
  exact rule i j t t' s _ _ ⟨.bl (g i j), H, I, rfl, q⟩

noncomputable def CDiv (i j : Int) : Prop := 0 < j ∧ j < 1073741824
noncomputable def CPow (i j : Int) : Prop := 0 ≤ j ∧ j ≤ 1000000 ∧ i.natAbs < 2 ^ 64
noncomputable def CMul (i j : Int) : Prop := (-(2 ^ 64) < i ∧ i < 2 ^ 64) ∨ (-(2 ^ 64) < j ∧ j < 2 ^ 64)
theorem CMul.ok {i j : Int} (h : CMul i j) : IntMulOk i j := by
  rcases h with ⟨h1, h2⟩ | ⟨h1, h2⟩
  · exact .of_left (intBits_le_64 h1 h2)
  · exact .of_right (intBits_le_64 h1 h2)
theorem op_add : OpR X (binaryOp .Add) (rI0 fun i j => .int (i + j)) := opI0 fun _ _ _ _ _ _ _ q => add_int q
theorem op_sub : OpR X (binaryOp .Sub) (rI0 fun i j => .int (i - j)) := opI0 fun _ _ _ _ _ _ _ q => sub_int q
theorem op_mul : OpR X (binaryOp .Mult) (rI CMul fun i j => .int (i * j)) := opI fun _ _ _ _ _ _ _ hc q => mul_int q hc.ok
theorem op_fdiv : OpR X (binaryOp .FloorDiv) (rI CDiv fun i j => .int (i / j)) := opI fun i j _ _ _ _ _ hc q => by
  have h1 : (0 : Int) < j := hc.1
  have h2 : j < 1073741824 := hc.2
  exact floordiv_int (by omega) (by rw [Int.fdiv_eq_ediv_of_nonneg i (by omega)]; exact q) (.inl (PyProof.noPylong_small (by omega)))
theorem op_mod : OpR X (binaryOp .Mod) (rI (fun _ j => 0 < j) fun i j => .int (i % j)) := opI fun i j _ _ _ _ _ hc q => by
  have h1 : (0 : Int) < j := hc
  exact mod_int' (by omega) (by rw [Int.fmod_eq_emod_of_nonneg i (by omega)]; exact q)
theorem op_pow : OpR X (binaryOp .Pow) (rI CPow fun i j => .int (i ^ j.toNat)) := opI fun _ _ _ _ _ _ _ hc q => pow_int_small hc.1 hc.2.1 hc.2.2 q
theorem unI {f : Value → Sem Value} {g : Int → Int}
    (rule : ∀ (i : Int) (t : Tok) (s : Shared) (Q : Value → Shared → Prop) (E : Value → Shared → Prop), Q (.int (g i) s.toks) { s with toks := s.toks + 1 } → wpAny (model X.prog X.w) X.A (f (.int i t)) Q E s) :
    UnR X f (rU fun i => .int (g i)) := by
  intro pins s σ H x v Q I rx h
  obtain ⟨i, rfl, q⟩ := h
  obtain ⟨t, rfl⟩ := rx
  exact rule i t s _ _ ⟨.int (g i), H, I.tok _, ⟨_, rfl⟩, q⟩
theorem un_neg : UnR X (unaryOp .USub) (rU fun i => .int (-i)) := unI fun _ _ _ _ _ q => neg_int q
end

noncomputable def scal : V → V → Bool
  | .non, .non => true | .non, .int _ => true | .int _, .non => true | .non, .bl _ => true | .bl _, .non => true | .non, .str _ => true | .str _, .non => true
  | .int _, .int _ => true | .bl _, .bl _ => true | .str _, .str _ => true | .byt _, .byt _ => true
  | .int _, .str _ => true | .str _, .int _ => true | .bl _, .str _ => true | .str _, .bl _ => true
  | _, _ => false
noncomputable def rEq : R2 := fun x y H Q => scal x y = true ∧ Q (.bl (decide (x = y))) H
noncomputable def rNe : R2 := fun x y H Q => scal x y = true ∧ Q (.bl (!decide (x = y))) H

theorem dec_int {i j : Int} : decide (V.int i = V.int j) = (i == j) := by
  rw [Bool.eq_iff_iff]
  simp
theorem dec_bl {i j : Bool} : decide (V.bl i = V.bl j) = (i == j) := by
  rw [Bool.eq_iff_iff]
  simp
theorem dec_str {i j : Str} : decide (V.str i = V.str j) = (i == j) := by
  rw [Bool.eq_iff_iff]
  simp
theorem dec_byt {i j : Array UInt8} : decide (V.byt i = V.byt j) = (i.toList == j.toList) := by
  rw [Bool.eq_iff_iff]
  cases i
  cases j
  simp

section
variable {X : Cx} {a b c : Expr} {ta tb tc : TE} {pos : Pos}
theorem fin_bl {pins : List (Addr × Obj)} {σ : St} {H : Hp} {s : Shared} {Q : VK} {k k' : Bool} (I : Inv X pins σ H s) (q : Q (.bl k) H) (e : k = k') : EP X pins σ Q (.bool k') s := by
  subst e
  exact ⟨.bl k, H, I, rfl, q⟩
theorem op_eq : OpR X (compareOp .Eq) rEq := by
  intro pins s σ H x y v u Q I rx ry h
  obtain ⟨hs, q⟩ := h
  cases x with
  | non =>
    cases rx
    cases y with
    | non => cases ry; exact PySem.EqNone.eq_none_none (fin_bl I q (by simp))
    | bl j => cases ry; exact PySem.EqNone.eq_none_bool (fin_bl I q (by simp))
    | int j => obtain ⟨t', rfl⟩ := ry; exact PySem.EqNone.eq_none_int (fin_bl I q (by simp))
    | str j => obtain ⟨t', rfl⟩ := ry; exact PySem.EqNone.eq_none_str (fin_bl I q (by simp))
    | _ => exact absurd (show false = true from hs) Bool.false_ne_true
  | bl i =>
    cases rx
    cases y with
    | non => cases ry; exact PySem.EqNone.eq_bool_none (fin_bl I q (by simp))
    | bl j => cases ry; exact eq_bool (fin_bl I q dec_bl)
    | str j => obtain ⟨t', rfl⟩ := ry; exact PySem.EqMixed.eq_bool_str (fin_bl I q (by simp))
    | _ => exact absurd (show false = true from hs) Bool.false_ne_true
  | int i =>
    obtain ⟨t, rfl⟩ := rx
    cases y with
    | non => cases ry; exact PySem.EqNone.eq_int_none (fin_bl I q (by simp))
    | int j => obtain ⟨t', rfl⟩ := ry; exact eq_int (fin_bl I q dec_int)
    | str j => obtain ⟨t', rfl⟩ := ry; exact PySem.EqMixed.eq_int_str (fin_bl I q (by simp))
    | _ => exact absurd (show false = true from hs) Bool.false_ne_true
  | str i =>
    obtain ⟨t, rfl⟩ := rx
    cases y with
    | non => cases ry; exact PySem.EqNone.eq_str_none (fin_bl I q (by simp))
    | bl j => cases ry; exact PySem.EqMixed.eq_str_bool (fin_bl I q (by simp))
    | int j => obtain ⟨t', rfl⟩ := ry; exact PySem.EqMixed.eq_str_int (fin_bl I q (by simp))
    | str j => obtain ⟨t', rfl⟩ := ry; exact eq_str (fin_bl I q dec_str)
    | _ => exact absurd (show false = true from hs) Bool.false_ne_true
  | byt i =>
    obtain ⟨t, rfl⟩ := rx
    cases y with
    | byt j => obtain ⟨t', rfl⟩ := ry; exact PySem.W.eq_bytes (fin_bl I q dec_byt)
    | _ => exact absurd (show false = true from hs) Bool.false_ne_true
  | _ => cases y <;> exact absurd (show false = true from hs) Bool.false_ne_true
theorem op_ne : OpR X (compareOp .NotEq) rNe := by
  intro pins s σ H x y v u Q I rx ry h
  obtain ⟨hs, q⟩ := h
  cases x with
  | non =>
    cases rx
    cases y with
    | non => cases ry; exact PySem.EqNone.ne_none_none (fin_bl I q (by simp))
    | bl j => cases ry; exact PySem.EqNone.ne_none_bool (fin_bl I q (by simp))
    | int j => obtain ⟨t', rfl⟩ := ry; exact PySem.EqNone.ne_none_int (fin_bl I q (by simp))
    | str j => obtain ⟨t', rfl⟩ := ry; exact PySem.EqNone.ne_none_str (fin_bl I q (by simp))
    | _ => exact absurd (show false = true from hs) Bool.false_ne_true
  | bl i =>
    cases rx
    cases y with
    | non => cases ry; exact PySem.EqNone.ne_bool_none (fin_bl I q (by simp))
    | bl j => cases ry; exact ne_bool (fin_bl I q (congrArg not dec_bl))
    | str j => obtain ⟨t', rfl⟩ := ry; exact PySem.EqMixed.ne_bool_str (fin_bl I q (by simp))
    | _ => exact absurd (show false = true from hs) Bool.false_ne_true
  | int i =>
    obtain ⟨t, rfl⟩ := rx
    cases y with
    | non => cases ry; exact PySem.EqNone.ne_int_none (fin_bl I q (by simp))
    | int j => obtain ⟨t', rfl⟩ := ry; exact ne_int (fin_bl I q (congrArg not dec_int))
    | str j => obtain ⟨t', rfl⟩ := ry; exact PySem.EqMixed.ne_int_str (fin_bl I q (by simp))
    | _ => exact absurd (show false = true from hs) Bool.false_ne_true
  | str i =>
    obtain ⟨t, rfl⟩ := rx
    cases y with
    | non => cases ry; exact PySem.EqNone.ne_str_none (fin_bl I q (by simp))
    | bl j => cases ry; exact PySem.EqMixed.ne_str_bool (fin_bl I q (by simp))
    | int j => obtain ⟨t', rfl⟩ := ry; exact PySem.EqMixed.ne_str_int (fin_bl I q (by simp))
    | str j => obtain ⟨t', rfl⟩ := ry; exact ne_str (fin_bl I q (congrArg not dec_str))
    | _ => exact absurd (show false = true from hs) Bool.false_ne_true
  | byt i =>
    obtain ⟨t, rfl⟩ := rx
    cases y with
    | byt j => obtain ⟨t', rfl⟩ := ry; exact PySem.W.ne_bytes (fin_bl I q (congrArg not dec_byt))
    | _ => exact absurd (show false = true from hs) Bool.false_ne_true
  | _ => cases y <;> exact absurd (show false = true from hs) Bool.false_ne_true

theorem op_gt : OpR X (compareOp .Gt) (rI0 fun i j => .bl (decide (j < i))) := opB0 fun _ _ _ _ _ _ _ q => gt_int q
theorem op_ge : OpR X (compareOp .GtE) (rI0 fun i j => .bl (decide (j ≤ i))) := opB0 fun _ _ _ _ _ _ _ q => ge_int q
theorem op_notin_str : OpR X (compareOp .NotIn) (fun x y H Q => ∃ i j, x = .str i ∧ y = .str j ∧ Q (.bl (!(!(Builtin.Str.occurrences j i 0 j.length 1).isEmpty))) H) := by
  intro pins s σ H x y v u Q I rx ry h
  obtain ⟨i, j, rfl, rfl, q⟩ := h
  obtain ⟨t, rfl⟩ := rx
  obtain ⟨t', rfl⟩ := ry
  exact notIn_str (fin_bl I q rfl)
theorem OpR.or {f : Value → Value → Sem Value} {r r' : R2} (h : OpR X f r) (h' : OpR X f r') : OpR X f (fun x y H Q => r x y H Q ∨ r' x y H Q) := by
  intro pins s σ H x y v u Q I rx ry q
  rcases q with q | q
  · exact h pins s σ H x y v u Q I rx ry q
  · exact h' pins s σ H x y v u Q I rx ry q

theorem nomark (b : Expr) {op : CmpOp} (h : op ≠ .In := by decide) (h2 : op ≠ .NotIn := by decide) : behindInMarks op b = false := by
  have e1 : (op == CmpOp.In) = false := by cases op <;> first | rfl | exact absurd rfl h
  have e2 : (op == CmpOp.NotIn) = false := by cases op <;> first | rfl | exact absurd rfl h2
  cases b <;> simp [behindInMarks, e1, e2]
theorem pe_cmpR {op : CmpOp} {r : R2} (ho : OpR X (compareOp op) r) (ha : PE X a ta) (hb : PE X b tb) (hm : behindInMarks op b = false) : PE X (.Compare a [op] [b] pos) (tOp r ta tb) := by
  intro pins s σ H Q I h
  exact wpAny_Compare1 (binT ha hb I h fun v u s2 x y H2 I2 rx ry q => ho pins s2 σ H2 x y v u Q I2 rx ry q) hm
noncomputable def tTest (t : TE) : TT := fun σ H Q => t σ H fun x H' => ∃ k, x = .bl k ∧ Q k H'
theorem pt_cmpR {op : CmpOp} {r : R2} (ho : OpR X (compareOp op) r) (ha : PE X a ta) (hb : PE X b tb) (hm : behindInMarks op b = false) : PT X (.Compare a [op] [b] pos) (tTest (tOp r ta tb)) := by
  intro pins s σ H Q I h
  refine wpAny_isTrue_Compare1 (thn (ha pins s σ H _ I h) fun v s1 ⟨x, H1, I1, r1, q1⟩ => thn (hb pins s1 σ H1 _ I1 q1) fun u s2 ⟨y, H2, I2, r2, q2⟩ =>
    thn (ho pins s2 σ H2 x y v u _ I2 r1 r2 q2) fun c s3 ⟨z, H3, I3, r3, k, e, q3⟩ => ?_) hm
  subst e
  cases r3
  exact wpAny_truthy_bool ⟨H3, I3, q3⟩
theorem line63 : (sizeLine : Nat) < 2 ^ 63 := by rw [sizeLine_eq]; decide
theorem op_add_str : OpR X (binaryOp .Add) (fun x y H Q => ∃ i j, x = .str i ∧ y = .str j ∧ i.length + j.length ≤ sizeLine ∧ Q (.str (i ++ j)) H) := by
  intro pins s σ H x y v u Q I rx ry h
  obtain ⟨i, j, rfl, rfl, hz, q⟩ := h
  obtain ⟨t, rfl⟩ := rx
  obtain ⟨t', rfl⟩ := ry
  exact add_str (fun t' tk => ⟨.str (i ++ j), H, I.tok _, ⟨_, rfl⟩, q⟩) hz
theorem vals1 {x : V} {us : List Value} (r : Vals [x] us) : ∃ u, us = [u] ∧ RelV x u := by
  cases r with
  | cons r1 r2 => cases r2; exact ⟨_, rfl, r1⟩
theorem vals2 {x y : V} {us : List Value} (r : Vals [x, y] us) : ∃ u w', us = [u, w'] ∧ RelV x u ∧ RelV y w' := by
  cases r with
  | cons r1 r2 =>
    cases r2 with
    | cons r3 r4 => cases r4; exact ⟨_, _, rfl, r1, r3⟩
theorem call_int1 : CallR X (.type "int") (fun xs H Q => (∃ i, xs = [.int i] ∧ Q (.int i) H) ∨ ∃ k, xs = [.bl k] ∧ Q (.int (if k then 1 else 0)) H) := by
  intro pins s σ H xs us Q I r h
  rcases h with ⟨i, rfl, q⟩ | ⟨k, rfl, q⟩
  · obtain ⟨u, rfl, t, rfl⟩ := vals1 r
    exact call_int_int ⟨.int i, H, I, ⟨_, rfl⟩, q⟩
  · obtain ⟨u, rfl, r1⟩ := vals1 r
    cases r1
    exact call_int_bool ⟨.int (if k then 1 else 0), H, I.tok _, ⟨_, rfl⟩, q⟩
theorem call_str_int : CallR X (.type "str") (fun xs H Q => ∃ i, xs = [.int i] ∧ i.natAbs.log2 < 1920 ∧ Q (.str (toString i)) H) := by
  intro pins s σ H xs us Q I r h
  obtain ⟨i, rfl, hz, q⟩ := h
  obtain ⟨u, rfl, t, rfl⟩ := vals1 r
  exact PySem.P.str_of_int hz ⟨.str _, H, I.tok _, ⟨_, rfl⟩, q⟩
end
end L2

namespace L2
open PySem PySem.Spec PyProof.Rows

structure ObjM (h : Heap) (x dx C : Addr) (mA : Str → Option Value) : Prop where
  obj : h.get? x = some (PySem.W.instObj C dx)
  ns : h.Ns1 dx mA
  ne : dx ≠ x

theorem lookIn_ns {h : Heap} {dx : Addr} {mA : Str → Option Value} (n : h.Ns1 dx mA) : ∃ od, h.get? dx = some od ∧ ∀ name, PySem.W.lookIn name od = some (mA name) := by
  obtain ⟨o, es, ep, ho, hd, hk, _, hm⟩ := n
  refine ⟨o, ho, fun name => ?_⟩
  have e := hm name
  unfold nsFind findBy at e
  rw [← Array.find?_toList] at e
  unfold PySem.W.lookIn
  rw [hd]
  dsimp only
  split
  · rename_i y q
    rw [q] at e
    exact congrArg some e
  · rename_i q
    rw [q] at e
    have a : es.toList.any (·.refKey) = false := by
      rw [List.any_eq_false]
      intro y hy
      obtain ⟨z, t, hkey⟩ := hk y (Array.mem_toList_iff.mp hy)
      simp [DictEntry.refKey, hkey]
    have a' : ¬ es.toList.any (·.refKey) = true := by rw [a]; exact Bool.false_ne_true
    rw [if_neg a']
    exact congrArg some e

theorem ObjM.look {h : Heap} {x dx C : Addr} {mA : Str → Option Value} (I : ObjM h x dx C mA) : ∃ od, PySem.W.InstAt h x (PySem.W.instObj C dx) C (some od) ∧ ∀ name, PySem.W.lookIn name od = some (mA name) :=
  let ⟨od, ho, hl⟩ := lookIn_ns I.ns
  ⟨od, ⟨I.obj, rfl, rfl, ho⟩, hl⟩

section
variable {prog : Program} {w : World} {A : Around} {E : Value → Shared → Prop} {s : Shared} {K : PySem.W.Frag} {x dx C f : Addr} {mA : Str → Option Value} {name : Str} {v : Value}

end

section
variable {P : Program} {w : World} {H H' : Hp} {h h' : Heap} {a C dx : Addr} {fs fs' : List (Str × V)}
end

structure Cls (K : PySem.W.Frag) (C : Addr) : Prop where
  pg : PySem.W.plainGet K C Str.empty = true
  hd : PySem.W.hasDictIn K C = true
  po : PySem.W.plainOver K C = true
  sa : PySem.W.findIn K (.ref C) "__setattr__" = some (some (.builtin "object.__setattr__"))
theorem Cls.get {K : PySem.W.Frag} {C : Addr} (c : Cls K C) (f : Str) : PySem.W.plainGet K C f = true := c.pg
section
variable {X : Cx} {pins : List (Addr × Obj)} {σ : St} {H : Hp} {s : Shared} {a C dx : Addr} {fs : List (Str × V)} {f : Str} {v : V} {A : Around} {E : Value → Shared → Prop}

theorem Inv.made (I : Inv X pins σ H s) : Inv X pins σ (upd (upd H s.heap.objs.size (.own (s.heap.objs.size + 1))) (s.heap.objs.size + 1) (.ins C s.heap.objs.size []))
    { s with heap := (s.heap.push PySem.W.emptyDict).push (PySem.W.instObj C s.heap.objs.size) } := by
  have e1 : (s.heap.push PySem.W.emptyDict).get? s.heap.objs.size = some PySem.W.emptyDict := Heap.get?_push_size s.heap rfl
  have e2 : ((s.heap.push PySem.W.emptyDict).push (PySem.W.instObj C s.heap.objs.size)).get? (s.heap.objs.size + 1) = some (PySem.W.instObj C s.heap.objs.size) := by
    have := Heap.get?_push_size (s.heap.push PySem.W.emptyDict) (o := PySem.W.instObj C s.heap.objs.size) rfl
    rwa [Heap.size_push] at this
  have e3 : (s.heap.push PySem.W.emptyDict).Ns s.heap.objs.size (fun _ => none) := ⟨PySem.W.emptyDict, #[], _, e1, rfl, (fun e he => absurd he (by simp)), fun _ => rfl⟩
  have I1 := I.laid (a := s.heap.objs.size) (o := .own (s.heap.objs.size + 1)) (h' := s.heap.push PySem.W.emptyDict) (t' := s.toks) (fun b u q => Heap.get?_push_of_some _ q) (Nat.le_refl _) ⟨_, e1⟩
  refine I1.laid (a := s.heap.objs.size + 1) (o := .ins C s.heap.objs.size []) (t' := s.toks) (fun b u q => Heap.get?_push_of_some _ q) (Nat.le_of_eq (Heap.size_push _ _)) ?_
  have ne : s.heap.objs.size ≠ s.heap.objs.size + 1 := Nat.ne_of_lt (Nat.lt_succ_self _)
  refine ⟨by rw [upd_ne ne, upd_same], Nat.zero_le _, ne, e2, fun _ => none, (Heap.Ns1.of_empty e3).at fun o q => Heap.get?_push_of_some _ q, fun _ => True.intro, fun y hy => absurd rfl hy⟩

end

section
variable {X : Cx} {o e value : Expr} {f : Str} {pos pos' tpos : Pos} {ta tv : TE}
end

section
variable {X : Cx} {pins : List (Addr × Obj)} {σ : St} {H : Hp} {s : Shared} {A : Around} {E : Value → Shared → Prop} {Q : Value → Shared → Prop} {c : Value} {b : Bool}
end
end L2

namespace L2
open PySem PySem.Spec PyProof.Rows

structure Room (k : Nat) (A : Around) : Prop where
  hd : A.handled = none
  dp : A.depth + 3 * k + 5 < recursionLimit
  un : A.units + 16 * k + 200 < cLine
theorem Room.mono {j k : Nat} {A : Around} (r : Room k A) (h : j ≤ k) : Room j A := ⟨r.hd, by have := r.dp; omega, by have := r.un; omega⟩
theorem Room.deeper {k : Nat} {A : Around} (r : Room (k + 1) A) (env : Env) : Room k (A.deeper env) :=
  ⟨r.hd, by have := r.dp; show A.depth + 1 + 3 * k + 5 < _; omega, by have := r.un; show A.units + 3 + 16 * k + 200 < _; omega⟩
theorem Room.depth {k : Nat} {A : Around} (r : Room k A) : A.depth < recursionLimit := by have := r.dp; omega
theorem Room.units {k : Nat} {A : Around} (r : Room k A) : A.units + 64 < cLine := by have := r.un; omega
noncomputable def tNil : TA := fun _ H Q => Q [] H
noncomputable def tCons (ta : TE) (tr : TA) : TA := fun σ H Q => ta σ H fun x H1 => tr σ H1 fun xs H2 => Q (x :: xs) H2
section
variable {X : Cx} {e : Expr} {es : List Expr} {te : TE} {t : TA} {pos : Pos}
theorem pa_nil : PA X [] tNil := fun _ _ _ _ H Q I h => Calls.spliced_nil ⟨[], H, I, .nil, h⟩
theorem pa_cons (ha : PE X e te) (hr : PA X es t) (hs : starEach (e :: es) X.env = (false, eval e X.env) :: starEach es X.env := by rfl) : PA X (e :: es) (tCons te t) := by
  intro pos pins s σ H Q I h
  rw [hs]
  show wpAny _ _ (spliced ((false, eval e X.env) :: backTo pos (starEach es X.env))) _ _ s
  refine Calls.spliced_cons (thn (ha pins s σ H _ I h) fun u s1 ⟨x, H1, I1, r1, q1⟩ => ?_)
  exact thn (hr pos pins s1 σ H1 _ I1 q1) fun us s2 ⟨xs, H2, I2, r2, q2⟩ => ⟨x :: xs, H2, I2, .cons r1 r2, q2⟩

noncomputable def tTup (t : TA) : TE := fun σ H Q => t σ H fun xs H1 => xs.length ≤ sizeLine ∧ ∀ p, H1 p = none → Q (.ref p) (upd H1 p (.tup xs))
noncomputable def tLst (t : TA) : TE := fun σ H Q => t σ H fun xs H1 => xs.length ≤ sizeLine ∧ ∀ p, H1 p = none → Q (.ref p) (upd H1 p (.lst xs))
theorem pe_tup {x1} (h : PA X es t) : PE X (.Tuple es x1 pos) (tTup t) := by
  intro pins s σ H Q I hq
  refine wpAny_Tuple_spliced (thn (h pos pins s σ H _ I hq) fun us s1 ⟨xs, H1, I1, r, z, q⟩ => ⟨by rw [← r.length]; exact z, ?_⟩)
  have hf : H1 s1.heap.objs.size = none := I1.hok.fresh (Nat.le_refl _)
  refine ⟨.ref s1.heap.objs.size, upd H1 s1.heap.objs.size (.tup xs), I1.laid (t' := s1.toks) (fun b u e => Heap.get?_push_of_some _ e) (Nat.le_refl _) ?_, rfl, q _ hf⟩
  exact ⟨z, us, r, ⟨_, Heap.get?_push_size _ rfl, rfl, _, rfl⟩⟩
theorem pe_lst (h : PA X es t) : PE X (.List es pos) (tLst t) := by
  intro pins s σ H Q I hq
  refine wpAny_List_spliced (thn (h pos pins s σ H _ I hq) fun us s1 ⟨xs, H1, I1, r, z, q⟩ => ⟨by rw [← r.length]; exact z, ?_⟩)
  have hf : H1 s1.heap.objs.size = none := I1.hok.fresh (Nat.le_refl _)
  refine ⟨.ref s1.heap.objs.size, upd H1 s1.heap.objs.size (.lst xs), I1.laid (t' := s1.toks) (fun b u e => Heap.get?_push_of_some _ e) (Nat.le_refl _) ?_, rfl, q _ hf⟩
  exact ⟨z, us, 0, r, Heap.get?_push_size _ rfl⟩
end

noncomputable abbrev Sp := List V → Hp → VK → XK → Prop
noncomputable abbrev CXT := List Env → Hp → Shared → XK → Value → Shared → Prop

structure Env0 (P : Program) (w : World) (K : PySem.W.Frag) (mg : Str → Option Value) (base : Heap) (A : Around) (outer : List Env) (s : Shared) (H : Hp) : Prop where
  frames : A.frames = some outer
  mod : Mod K mg base
  bs : ∀ b o, base.get? b = some o → s.heap.get? b = some o ∧ H b = none
  bsz : base.objs.size ≤ s.heap.objs.size
  funs : s.heap.FunFrames base outer
  frf : ∀ b ∈ frs outer, H b = none
  hok : HOk P w H s.heap
  bare : AllBare s.gens
noncomputable def CE (outer : List Env) (P : Program) (w : World) (H : Hp) (s : Shared) (Q : VK) (u : Value) (s' : Shared) : Prop :=
  ∃ v H', s'.os = s.os ∧ AllBare s'.gens ∧ Un (frs outer) [] H H' s.heap s'.heap ∧ HOk P w H' s'.heap ∧ RelV v u ∧ Q v H'
noncomputable def CR (CX : CXT) (outer : List Env) (P : Program) (w : World) (H : Hp) (s : Shared) (Q : VK) (E : XK) (r : Result) (s' : Shared) : Prop :=
  match r with
  | .ok (.ret u) => CE outer P w H s Q u s'
  | .ok _ => False
  | .error e => CX outer H s E e s'
structure FnOk (P : Program) (w : World) (K : PySem.W.Frag) (mg : Str → Option Value) (base : Heap) (CX : CXT) (k : Nat) (f : Addr) (fd : FuncData) (ps : List Str) (sp : Sp) : Prop where
  len : ∀ vs H Q E, sp vs H Q E → vs.length = ps.length
  run : ∀ (A : Around) (outer : List Env) (s : Shared) (H : Hp) (args : Args) (us : List Value) (vs : List V) (Q : VK) (E : XK), Room k A → Env0 P w K mg base A outer s H → BindsTo s fd args (ps.zip us) → Vals vs us → sp vs H Q E →
    codeAny (model P w) A (.call (.ref f) args) (CR CX outer P w H s Q E) s
theorem FnOk.mono {P : Program} {w : World} {K : PySem.W.Frag} {mg : Str → Option Value} {base : Heap} {CX : CXT} {j k : Nat} {f : Addr} {fd : FuncData} {ps : List Str} {sp : Sp} (F : FnOk P w K mg base CX j f fd ps sp) (h : j ≤ k) :
    FnOk P w K mg base CX k f fd ps sp := ⟨F.len, fun A outer s H args us vs Q E hr => F.run A outer s H args us vs Q E (hr.mono h)⟩
section
variable {X : Cx} {pins : List (Addr × Obj)} {σ : St} {H : Hp} {s s' : Shared}
theorem Inv.env0 (I : Inv X pins σ H s) : Env0 X.prog X.w X.K X.mg X.base X.A X.stack s H :=
  ⟨I.ok.frames, I.ok.mod, I.bs, Nat.le_trans I.ok.bsz I.sz, I.stack, I.stkFree, I.hok, I.bare⟩
theorem Inv.after {Q : VK} {u : Value} (I : Inv X pins σ H s) (h : CE X.stack X.prog X.w H s Q u s') : EP X pins σ Q u s' := by
  obtain ⟨v, H', os, bare, un, hok, r, q⟩ := h
  obtain ⟨hh, g, d, t, os'⟩ := s'
  obtain rfl : os' = s.os := os
  exact ⟨v, H', I.call (h' := hh) (g' := g) (d' := d) (t' := t) (ch := []) un hok bare (fun b z => absurd z (by simp)), r, q⟩
end

noncomputable def tCall (sp : Sp) (dvs : List V) (E : XK) (t : TA) : TE := fun σ H Q => t σ H fun vs H1 => sp (vs ++ dvs) H1 Q E
noncomputable def Binds (K : PySem.W.Frag) (fd : FuncData) (ps : List Str) (ds : List Value) : Prop :=
  ∀ (s : Shared) (us : List Value), K.In s.heap → (us ++ ds).length = ps.length → BindsTo s fd ⟨us, []⟩ (ps.zip (us ++ ds))
theorem Binds.all {K : PySem.W.Frag} {fd : FuncData} {ps : List Str} (h : ∀ us : List Value, us.length = ps.length → bindArgs fd ⟨us, []⟩ = pure (ps.zip us)) : Binds K fd ps [] := fun s us _ hl => by
  rw [List.append_nil] at hl ⊢
  exact .of_eq (h us hl)

noncomputable def Passes (CX : CXT) (X : Cx) (E : XK) : Prop := ∀ (pins : List (Addr × Obj)) (σ : St) (H : Hp) (s : Shared) (e : Value) (s' : Shared), Inv X pins σ H s → CX X.stack H s E e s' → X.xe e s'

section
variable {X : Cx} {CX : CXT} {k : Nat} {f C : Addr} {fd : FuncData} {ps : List Str} {sp : Sp} {dvs : List V} {ds : List Value} {E : XK} {x m : Str} {p pos apos : Pos} {e o : Expr} {es : List Expr} {ta : TE} {t : TA}

theorem run_fn {pins : List (Addr × Obj)} {σ : St} {H : Hp} {s : Shared} {Q : VK} {us : List Value} {vs : List V} (F : FnOk X.prog X.w X.K X.mg X.base CX k f fd ps sp) (hr : Room k X.A) (hb : Binds X.K fd ps ds) (hd : Vals dvs ds) (hx : Passes CX X E)
    (I : Inv X pins σ H s) (r : Vals vs us) (h : sp (vs ++ dvs) H Q E) : wpAny (model X.prog X.w) X.A (call (.ref f) us) (EP X pins σ Q) X.xe s := by
  have r2 : Vals (vs ++ dvs) (us ++ ds) := r.append hd
  have hl : (us ++ ds).length = ps.length := by rw [← r2.length]; exact F.len _ _ _ _ h
  refine wpAny_call (codeAny_mono (F.run X.A X.stack s H ⟨us, []⟩ (us ++ ds) (vs ++ dvs) Q E hr I.env0 (hb s us I.kIn hl) r2 h) fun r s' hq => ?_)
  cases r with
  | error e => exact hx pins σ H s e s' I hq
  | ok fl =>
    cases fl with
    | ret u => exact I.after hq
    | next => exact False.elim hq
    | brk => exact False.elim hq
    | cont => exact False.elim hq

theorem pe_call (F : FnOk X.prog X.w X.K X.mg X.base CX k f fd ps sp) (hr : Room k X.A) (hg : Gl X x) (hm : X.mg x = some (.ref f)) (hk : PySem.W.keepIn X.K (.ref f) = true) (hb : Binds X.K fd ps ds) (hd : Vals dvs ds) (hx : Passes CX X E)
    (ha : PA X (e :: es) t) (hdb : (x == ("__debug__" : Str)) = false := by decide) (he : starEach (e :: es) X.env = (false, eval e X.env) :: starEach es X.env := by rfl) (hpl : (backTo pos (starEach es X.env)).any (·.1) = false := by rfl) :
    PE X (.Call (.Name x p) (e :: es) [] pos) (tCall sp dvs E t) := by
  intro pins s σ H Q I h
  refine wpAny_Call_Name_kw (ld_glob I hg hm ?_ hdb)
  refine PySem.W.callWith_K (h₀ := X.base) I.ok.mod.kin hk (thn (ha pos pins s σ H _ I h) fun us s1 ⟨vs, H1, I1, r, q⟩ => ⟨I1.kIn, ?_⟩) he hpl
  exact run_fn F hr hb hd hx I1 r q
end

section
variable {X : Cx} {CX : CXT} {k : Nat} {f C : Addr} {fd : FuncData} {ps ks : List Str} {sp : Sp} {E : XK} {x m : Str} {p pos apos kpos : Pos} {e o : Expr} {es : List Expr} {kws : List Keyword} {te ta : TE} {t tk : TA} {nm : Option Str}
variable {g : List Value → List Value → List Value} {gV : List V → List V → List V}
end

structure FnScope (N P : List Str) (sc : Scope) : Prop where
  kind : sc.kind = .function
  co : sc.isCoroutine = false
  gen : sc.isGenerator = false
  nd : N.Nodup
  pre : N.take P.length = P
  par : ∀ x ∈ P, sc.names.lookup x = some .local ∨ sc.names.lookup x = some .cell
  nofree : ∀ y ∈ sc.names, y.2 ≠ .free

theorem bindL_out {kindOf : Str → Option NameKind} {x : Str} : ∀ {binds : List (Str × Value)} {m : Str → Option Value}, (∀ v, (x, v) ∉ binds) → bindL kindOf binds m x = m x
  | [], _, _ => rfl
  | (n, v) :: r, m, h => by
    unfold bindL
    rw [bindL_out fun w hw => h w (List.mem_cons_of_mem _ hw)]
    split
    · have : x ≠ n := by rintro rfl; exact h v List.mem_cons_self
      simp [this]
    · rfl
theorem bindC_out {kindOf : Str → Option NameKind} {x : Str} : ∀ {binds : List (Str × Value)} {m : Str → Option Value}, (∀ v, (x, v) ∉ binds) → bindC kindOf binds m x = m x
  | [], _, _ => rfl
  | (n, v) :: r, m, h => by
    unfold bindC
    rw [bindC_out fun w hw => h w (List.mem_cons_of_mem _ hw)]
    split
    · rfl
    · have : x ≠ n := by rintro rfl; exact h v List.mem_cons_self
      simp [this]
theorem bindL_get {kindOf : Str → Option NameKind} {x : Str} {v : Value} : ∀ {P : List Str} {vs : List Value} {i : Nat} {m : Str → Option Value}, P.Nodup → P[i]? = some x → vs[i]? = some v → kindOf x = some .local →
    bindL kindOf (P.zip vs) m x = some v
  | [], _, _, _, _, h, _, _ => by simp at h
  | _ :: _, [], _, _, _, _, h, _ => by simp at h
  | p :: P, w :: vs, 0, m, nd, h1, h2, hk => by
    simp at h1 h2; subst h1; subst h2
    show bindL kindOf ((p, w) :: P.zip vs) m p = _
    unfold bindL
    rw [bindL_out fun v hv => (List.nodup_cons.mp nd).1 (List.of_mem_zip hv).1, if_pos hk]
    simp
  | p :: P, w :: vs, i + 1, m, nd, h1, h2, hk => by
    show bindL kindOf ((p, w) :: P.zip vs) m x = _
    unfold bindL
    exact bindL_get (i := i) (List.nodup_cons.mp nd).2 (by simpa using h1) (by simpa using h2) hk
theorem bindC_get {kindOf : Str → Option NameKind} {x : Str} {v : Value} : ∀ {P : List Str} {vs : List Value} {i : Nat} {m : Str → Option Value}, P.Nodup → P[i]? = some x → vs[i]? = some v → kindOf x ≠ some .local →
    bindC kindOf (P.zip vs) m x = some v
  | [], _, _, _, _, h, _, _ => by simp at h
  | _ :: _, [], _, _, _, _, h, _ => by simp at h
  | p :: P, w :: vs, 0, m, nd, h1, h2, hk => by
    simp at h1 h2; subst h1; subst h2
    show bindC kindOf ((p, w) :: P.zip vs) m p = _
    unfold bindC
    rw [bindC_out fun v hv => (List.nodup_cons.mp nd).1 (List.of_mem_zip hv).1, if_neg hk]
    simp
  | p :: P, w :: vs, i + 1, m, nd, h1, h2, hk => by
    show bindC kindOf ((p, w) :: P.zip vs) m x = _
    unfold bindC
    exact bindC_get (i := i) (List.nodup_cons.mp nd).2 (by simpa using h1) (by simpa using h2) hk

noncomputable def start (N : List Str) (vs : List V) : St := vs.map some ++ List.replicate (N.length - vs.length) none

noncomputable def cxOf (CX : CXT) (P : Program) (w : World) (K : PySem.W.Frag) (mg : Str → Option Value) (base : Heap) (N : List Str) (qual : Str) (scope : Scope) (f : Addr) (cd : Value) (A : Around) (outer : List Env) (s : Shared) (H : Hp) (E : XK) : Cx where
  prog := P
  w := w
  K := K
  mg := mg
  base := base
  A := A.deeper (envOfC qual scope s.heap.objs.size f cd)
  N := N
  s₀ := s
  H₀ := H
  env := envOfC qual scope s.heap.objs.size f cd
  outer := outer
  stack := envOfC qual scope s.heap.objs.size f cd :: outer
  ex := []
  calm := true
  fn := fun _ => true
  pn := []
  xe := fun e s' => wpAny (model P w) (A.deeper (envOfC qual scope s.heap.objs.size f cd)) (leaving (envOfC qual scope s.heap.objs.size f cd) e) (fun _ s'' => CX outer H s E e s'') (fun e' s'' => CX outer H s E e' s'') s'

theorem cell_has {sc : Scope} {n : Nat} {x : Str} (h : sc.names.lookup x = some .cell) : ∃ c, (cellsFrom n sc.names []).lookup x = some c := by
  have q := PySem.W.cellsFrom_some sc.names n [] (.inl h)
  exact Option.isSome_iff_exists.mp q

theorem inv_start {CX : CXT} {P : Program} {w : World} {K : PySem.W.Frag} {mg : Str → Option Value} {base : Heap} {N ps : List Str} {qual : Str} {scope : Scope} {f : Addr} {cd : Value} {A : Around} {outer : List Env} {s s1 : Shared} {H : Hp} {E : XK} {us : List Value} {vs : List V}
    (S : FnScope N ps scope) (hd : A.handled = none) (e0 : Env0 P w K mg base A outer s H) (hl : vs.length = ps.length) (r : Vals vs us)
    (x : InCallC s s.heap.objs.size (bindL (envOfC qual scope s.heap.objs.size f cd).kindOf (ps.zip us) fun _ => none) (cellsFrom (s.heap.objs.size + 1) scope.names []) (bindC (envOfC qual scope s.heap.objs.size f cd).kindOf (ps.zip us) fun _ => none) s1) :
    Inv (cxOf CX P w K mg base N qual scope f cd A outer s H E) [] (start N vs) H s1 := by
  have hpl : ps.length ≤ N.length := by have := congrArg List.length S.pre; rw [List.length_take] at this; omega
  obtain ⟨h1, tk, rfl, hk⟩ := x.done
  have noA : ∀ b : Addr, b ∉ (cxOf CX P w K mg base N qual scope f cd A outer s H E).ex := fun b z => absurd (show b ∈ ([] : List Addr) from z) (by simp)
  refine ⟨⟨e0.mod, S.kind, rfl, rfl, Nat.le_refl _, fun y z c h1 h2 => ?_, fun y hy => ?_, fun y c _ h => ?_, fun _ => hd, Around.frames_deeper e0.frames, .inr ⟨rfl, rfl⟩, fun b z => absurd z (noA b), e0.bs, e0.bsz, fun b _ _ => noA b, fun b z => absurd z (noA b), e0.funs, e0.frf⟩,
    rfl, e0.bare, Un.kept hk, ⟨_, x.toInCall.ns, fun i y v h1 h2 h3 => ?_⟩, fun y c h => ⟨_, x.cell y c h⟩, e0.hok.fresh (Nat.le_refl _), fun y c h => ?_, fun p hp => absurd (show p ∈ ([] : List (Addr × Obj)) from hp) (by simp), e0.hok.kept hk, ?_⟩
  · exact name_of_addr x.apart (PySem.mem_of_lookup h1) (PySem.mem_of_lookup h2)
  · have hy : scope.names.lookup y = some .cell ∨ scope.names.lookup y = some .free := hy
    rcases hy with hy | hy
    · exact cell_has hy
    · exact absurd rfl (S.nofree _ (PySem.mem_of_lookup hy))
  · exact Nat.le_of_lt (x.above y c (PySem.mem_of_lookup h))
  · have hi : i < vs.length := by
      unfold start at h2
      by_cases hi : i < vs.length
      · exact hi
      · rw [List.getElem?_append_right (by simpa using hi)] at h2
        rw [List.getElem?_replicate] at h2
        split at h2 <;> cases h2
    have ha : vs[i]? = some v := by
      unfold start at h2
      rw [List.getElem?_append_left (by simpa using hi), List.getElem?_map] at h2
      cases e : vs[i]? with
      | none => rw [e] at h2; cases h2
      | some a => rw [e] at h2; cases h2; rfl
    obtain ⟨u, hu, rv⟩ := r.get ha
    have hp : ps[i]? = some y := by
      rw [← S.pre, List.getElem?_take_of_lt (by omega)]; exact h1
    have ndP : ps.Nodup := by rw [← S.pre]; exact S.nd.sublist (List.take_sublist _ _)
    refine ⟨u, rv, ?_⟩
    rcases S.par y (List.mem_of_getElem? hp) with k | k
    · exact .inl ⟨k, bindL_get ndP hp hu k⟩
    · obtain ⟨c, e⟩ := cell_has (n := s.heap.objs.size + 1) k
      refine .inr ⟨.inl k, c, e, ?_⟩
      have q := x.cell y c e
      rw [bindC_get ndP hp hu (by show scope.names.lookup y ≠ _; rw [k]; decide)] at q
      exact q
  · exact e0.hok.fresh (Nat.le_of_lt (x.above y c (PySem.mem_of_lookup h)))
  · unfold start
    show _ = N.length
    rw [List.length_append, List.length_map, List.length_replicate]
    omega

theorem fn_of {CX : CXT} {P : Program} {w : World} {K : PySem.W.Frag} {mg : Str → Option Value} {base : Heap} {k : Nat} {f : Addr} {name qual : Str} {params : Arguments} {body : List Stmt} {scope : Scope} {dV kV doc pm cdv ct oc : Value} {an od : Option Addr}
    {osl : Array (Option Value)} {N ps : List Str} {sp : Sp} (lk : K.lookup f = some ⟨oc, od, .func (PySem.W.fnOf name qual params body scope dV kV doc pm an cdv ct), osl⟩) (hcd : PySem.W.codeIn K cdv qual = true) (S : FnScope N ps scope)
    (len : ∀ vs H Q E, sp vs H Q E → vs.length = ps.length)
    (hbody : ∀ (A : Around) (outer : List Env) (s : Shared) (H : Hp) (vs : List V) (Q : VK) (E : XK), Room k (A.deeper (envOfC qual scope s.heap.objs.size f cdv)) → sp vs H Q E →
      ∃ t, PSs (cxOf CX P w K mg base N qual scope f cdv A outer s H E) body t ∧ t { nx := fun _ H' => Q .non H', rt := Q } (start N vs) H) :
    FnOk P w K mg base CX (k + 1) f (PySem.W.fnOf name qual params body scope dV kV doc pm an cdv ct) ps sp := by
  refine ⟨len, fun A outer s H args us vs Q E hr e0 hb r hsp => ?_⟩
  have hl := len _ _ _ _ hsp
  have KX : K.In s.heap := e0.mod.kin.keeps fun b o e => (e0.bs b o e).1
  have lim : s.heap.NoLimit := e0.mod.nolimit.keeps fun b o e => (e0.bs b o e).1
  have hkind : ∀ y ∈ ps.zip us, scope.names.lookup y.1 = some .local ∨ (scope.names.lookup y.1 = some .cell ∧ ((cellsFrom (s.heap.objs.size + 1) scope.names []).lookup y.1).isSome = true) := fun ⟨n, v⟩ hy => by
    rcases S.par n (List.of_mem_zip hy).1 with q | q
    · exact .inl q
    · exact .inr ⟨q, PySem.W.cellsFrom_some _ _ _ (.inl q)⟩
  refine codeAny_call_function hr.depth (KX _ _ lk) rfl S.co S.gen rfl (PySem.W.codeRec_of KX hcd) (hb _ _ _ _ ?_)
  refine wpAny_newFunctionEnv_cells S.kind hkind fun env he s1 x => ?_
  subst he
  refine ⟨lim.keeps x.toInCall.keep, codeAny_func ?_⟩
  obtain ⟨t, ht, hq⟩ := hbody A outer s H vs Q E (hr.deeper _) hsp
  have I : Inv (cxOf CX P w K mg base N qual scope f cdv A outer s H E) [] (start N vs) H s1 := inv_start S hr.hd e0 hl r x
  refine wpAny_mono (ht [] s1 (start N vs) H _ I hq) (fun fl s' hs => ?_) fun e s' hs => hs
  have fin : ∀ {σ' : St} {H' : Hp} {v : V} {u : Value}, Inv (cxOf CX P w K mg base N qual scope f cdv A outer s H E) [] σ' H' s' → RelV v u → Q v H' → CE outer P w H s Q u s' :=
    fun {σ' H' v u} J rv q => ⟨v, H', J.os, J.bare, J.base, J.hok, rv, q⟩
  cases fl with
  | ret u =>
    obtain ⟨v, σ', H', J, rv, q⟩ := hs
    exact fin J rv q
  | next =>
    obtain ⟨σ', H', J, q⟩ := hs
    exact fin (v := V.non) (u := Value.none) J rfl q
  | brk =>
    obtain ⟨_, _, _, q⟩ := hs
    exact False.elim q
  | cont =>
    obtain ⟨_, _, _, q⟩ := hs
    exact False.elim q
end L2

namespace L2
open PySem PySem.Spec PyProof.Rows
section
variable {X : Cx} {x : Str} {p pos : Pos} {e : Expr} {es : List Expr} {t : TA} {id T : String} {r : List V → Hp → VK → Prop}

noncomputable def tCB (r : List V → Hp → VK → Prop) (t : TA) : TE := fun σ H Q => t σ H fun vs H1 => r vs H1 Q
theorem pe_callB (hc : CallR X (.builtin id) r) (hg : Gl X x) (hm : X.mg x = none) (hv : bootBuiltins x = some (.builtin id)) (ha : PA X (e :: es) t) (hn : x ≠ "__name__" := by decide) (hdb : (x == ("__debug__" : Str)) = false := by decide)
    (he : starEach (e :: es) X.env = (false, eval e X.env) :: starEach es X.env := by rfl) (hpl : (backTo pos (starEach es X.env)).any (·.1) = false := by rfl) : PE X (.Call (.Name x p) (e :: es) [] pos) (tCB r t) := by
  intro pins s σ H Q I h
  refine wpAny_Call_Name_kw (ld_blt I hg hm hv ?_ hn hdb)
  exact PyProof.Rows.callWith_builtin1 (thn (ha pos pins s σ H _ I h) fun us s1 ⟨vs, H1, I1, r1, q1⟩ => hc pins s1 σ H1 vs us Q I1 r1 q1) he hpl
theorem pe_callTy (hc : CallR X (.type T) r) (hg : Gl X x) (hm : X.mg x = none) (hv : bootBuiltins x = some (.type T)) (ha : PA X (e :: es) t) (hn : x ≠ "__name__" := by decide) (hdb : (x == ("__debug__" : Str)) = false := by decide)
    (he : starEach (e :: es) X.env = (false, eval e X.env) :: starEach es X.env := by rfl) (hpl : (backTo pos (starEach es X.env)).any (·.1) = false := by rfl) : PE X (.Call (.Name x p) (e :: es) [] pos) (tCB r t) := by
  intro pins s σ H Q I h
  refine wpAny_Call_Name_kw (ld_blt I hg hm hv ?_ hn hdb)
  exact PyProof.Rows.callWith_type1 (thn (ha pos pins s σ H _ I h) fun us s1 ⟨vs, H1, I1, r1, q1⟩ => hc pins s1 σ H1 vs us Q I1 r1 q1) he hpl
end
end L2

namespace HT
open PySem PyProof.Rows

section
open PySem.SeqAt
open PySem.AutoSeq1 (wpAny_loadPart')
open PySem.MeetsSeq PySem.MeetsSeq2 PySem.MeetsSeq3

end

section
variable {prog : Program} {w : World} {A : Around} {E : Value → Shared → Prop} {s : Shared}

theorem cat_tup {t b : Addr} {vs ws : List Value} {Q : Value → Shared → Prop} (ht : IsTup s.heap t vs.toArray) (hb : IsTup s.heap b ws.toArray) (hv : vs ≠ [])
    (h1 : ws = [] → Q (.ref t) s) (h2 : ws ≠ [] → Q (.ref s.heap.objs.size) { s with heap := s.heap.push { cls := .type "tuple", data := .seq (vs ++ ws).toArray } })
    (hsz : vs.length + ws.length ≤ sizeLine) : wpAny (model prog w) A (binaryOp .Add (.ref t) (.ref b)) Q E s := by
  obtain ⟨⟨cls, dd, data, sl⟩, ho, hc, n, hd⟩ := id ht
  obtain ⟨⟨cls2, dd2, data2, sl2⟩, ho2, hc2, n2, hd2⟩ := id hb
  simp only at hc hd hc2 hd2
  subst hc hd hc2 hd2
  have e : vs.toArray ++ ws.toArray = (vs ++ ws).toArray := by simp
  by_cases hw : ws = []
  · exact concat_meets ⟨_, ho, rfl⟩ ⟨_, ho2, rfl⟩ noFill_tuple_add seq_tuple_add PySem.F.slot_tuple_add PySem.F.entry_tuple_add (PySem.F.args_tuple_add_2 _ _)
      (tuple_addW1 t b vs.toArray ws.toArray n n2 dd dd2 sl sl2 (by simpa using hv) (by simp [hw])) ⟨ho, ho2, h1 hw⟩
  · refine concat_meets ⟨_, ho, rfl⟩ ⟨_, ho2, rfl⟩ noFill_tuple_add seq_tuple_add PySem.F.slot_tuple_add PySem.F.entry_tuple_add (PySem.F.args_tuple_add_2 _ _)
      (tuple_addW2 t b vs.toArray ws.toArray n n2 dd dd2 sl sl2 (by simpa using hv) (by simpa using hw) (by rw [List.size_toArray, List.size_toArray]; exact hsz)) ⟨ho, ho2, ?_⟩
    rw [e]
    exact h2 hw

noncomputable def sIx (n d : Nat) : Option Int → Nat
  | none => d
  | some v => if v < 0 then (v + (n : Int)).toNat else min v.toNat n
end
end HT

namespace L2
open PySem PySem.Spec PyProof.Rows

noncomputable abbrev TO := St → Hp → (Option Int → Hp → Prop) → Prop
noncomputable def PO (X : Cx) (e : Option Expr) (t : TO) : Prop :=
  ∀ (pins : List (Addr × Obj)) (s : Shared) (σ : St) (H : Hp) (Q : Option Int → Hp → Prop), Inv X pins σ H s → t σ H Q →
    wpAny (model X.prog X.w) X.A (evalPart e X.env) (fun u s' => ∃ o H', Inv X pins σ H' s' ∧ IsPart u o ∧ Q o H') X.xe s
noncomputable def tNoPart : TO := fun _ H Q => Q none H
noncomputable def tPart (t : TE) : TO := fun σ H Q => t σ H fun x H1 => ∃ i, x = .int i ∧ Q (some i) H1

section
variable {X : Cx} {e : Expr} {te : TE} {lo hi : Option Expr} {tl th : TO} {pos p2 : Pos}

theorem po_none : PO X none tNoPart := by
  intro pins s σ H Q I h
  rw [evalPart_none]
  exact wpAny_pure ⟨none, H, I, .none, h⟩
theorem po_some (h : PE X e te) : PO X (some e) (tPart te) := by
  intro pins s σ H Q I hw
  rw [evalPart_some]
  refine thn (h pins s σ H _ I hw) fun u s1 ⟨x, H1, I1, r1, q1⟩ => ?_
  obtain ⟨i, rfl, q⟩ := q1
  obtain ⟨t, rfl⟩ := r1
  exact ⟨some i, H1, I1, .int i t, q⟩

noncomputable def SlR (X : Cx) (r : V → Option Int → Option Int → Hp → VK → Prop) : Prop :=
  ∀ (pins : List (Addr × Obj)) (s : Shared) (σ : St) (H : Hp) (x : V) (v vl vu : Value) (lo hi : Option Int) (sl : Addr) (Q : VK), Inv X pins σ H s → RelV x v → s.heap.IsSliceOf sl vl vu .none → IsPart vl lo → IsPart vu hi → r x lo hi H Q →
    ∃ T id, typeLookup (.type T) "__getitem__" = pure (some (.builtin id)) ∧ s.TypeIs v T ∧ wpAny (model X.prog X.w) X.A (getItem v (.ref sl)) (EP X pins σ Q) X.xe s
theorem SlR.or {r r' : V → Option Int → Option Int → Hp → VK → Prop} (h : SlR X r) (h' : SlR X r') : SlR X (fun x lo hi H Q => r x lo hi H Q ∨ r' x lo hi H Q) := by
  intro pins s σ H x v vl vu lo hi sl Q I rx hs pl pu q
  rcases q with q | q
  · exact h pins s σ H x v vl vu lo hi sl Q I rx hs pl pu q
  · exact h' pins s σ H x v vl vu lo hi sl Q I rx hs pl pu q
noncomputable def tSl (r : V → Option Int → Option Int → Hp → VK → Prop) (te : TE) (tl th : TO) : TE := fun σ H Q => te σ H fun x H1 => tl σ H1 fun l H2 => th σ H2 fun u H3 => r x l u H3 Q
theorem pe_slice {r : V → Option Int → Option Int → Hp → VK → Prop} (hr : SlR X r) (he : PE X e te) (hl : PO X lo tl) (hu : PO X hi th) : PE X (.Subscript e (.Slice lo hi none p2) pos) (tSl r te tl th) := by
  intro pins s σ H Q I h
  refine Subscript_ (thn (he pins s σ H _ I h) fun v s1 ⟨x, H1, I1, r1, q1⟩ => ?_)
  refine wpAny_Slice (thn (hl pins s1 σ H1 _ I1 q1) fun vl s2 ⟨l, H2, I2, pl, q2⟩ => thn (hu pins s2 σ H2 _ I2 q2) fun vu s3 ⟨u, H3, I3, pu, q3⟩ => ?_)
  rw [evalPart_none]
  refine wpAny_pure ?_
  have I4 : Inv X pins σ H3 { s3 with heap := s3.heap.push { cls := .type "slice", data := .fields #[vl, vu, .none] } } := I3.kept (t' := s3.toks) fun b ob q => Heap.get?_push_of_some _ q
  obtain ⟨T, id, hT, ht, hg⟩ := hr pins { s3 with heap := s3.heap.push { cls := .type "slice", data := .fields #[vl, vu, .none] } } σ H3 x v vl vu l u s3.heap.objs.size Q I4 r1 (Heap.IsSliceOf.new ..) pl pu q3
  show wpAny (model X.prog X.w) X.A (subscriptTail e (.Slice lo hi none p2) v (.ref s3.heap.objs.size)) (EP X pins σ Q) X.xe { s3 with heap := s3.heap.push { cls := .type "slice", data := .fields #[vl, vu, .none] } }
  exact tail_any (ops := [.ref s3.heap.objs.size, v]) ht hT hg (by with_unfolding_all rfl)

noncomputable def cutV (xs : List V) (lo hi : Option Int) : List V := (xs.drop (HT.sIx xs.length 0 lo)).take (HT.sIx xs.length xs.length hi - HT.sIx xs.length 0 lo)
theorem cutV_length (xs : List V) (lo hi : Option Int) : (cutV xs lo hi).length ≤ xs.length := by
  unfold cutV
  rw [List.length_take, List.length_drop]
  omega
noncomputable def rCatT (K : PySem.W.Frag) : R2 := fun x y H Q => ∃ a b xs ys, x = .ref a ∧ y = .ref b ∧ SqT K H a xs ∧ SqT K H b ys ∧ xs ≠ [] ∧ xs.length + ys.length ≤ sizeLine ∧
  (ys = [] → Q (.ref a) H) ∧ (ys ≠ [] → ∀ p, H p = none → Q (.ref p) (upd H p (.tup (xs ++ ys))))
theorem Vals.nil_iff {xs : List V} {us : List Value} (r : Vals xs us) : us = [] ↔ xs = [] := by
  cases r with
  | nil => simp
  | cons _ _ => simp
theorem op_catT : OpR X (binaryOp .Add) (rCatT X.K) := by
  intro pins s σ H x y v u Q I rx ry h
  obtain ⟨a, b, xs, ys, rfl, rfl, ha, hb, hx, hz, q1, q2⟩ := h
  cases rx
  cases ry
  obtain ⟨its, r1, p1, _⟩ := I.tuple ha
  obtain ⟨its2, r2, p2, _⟩ := I.tuple hb
  refine HT.cat_tup p1 p2 (fun z => hx (r1.nil_iff.mp z)) (fun z => ⟨.ref a, H, I, rfl, q1 (r2.nil_iff.mp z)⟩) (fun z => ?_) (by rw [← r1.length, ← r2.length]; exact hz)
  refine ⟨.ref s.heap.objs.size, _, I.laid (t' := s.toks) (o := .tup (xs ++ ys)) (fun b ob q => Heap.get?_push_of_some _ q) (Nat.le_refl _) ?_, rfl, q2 (fun w => z (r2.nil_iff.mpr w)) _ (I.hok.fresh (Nat.le_refl _))⟩
  exact ⟨by rw [List.length_append]; exact hz, _, r1.append r2, IsTup.new _ _⟩
end
end L2

namespace L2
open PySem PySem.Spec PyProof.Rows

noncomputable def ixN (n : Nat) (i : Int) : Option Nat := if 0 ≤ i then (if i < n then some i.toNat else none) else if -(n : Int) ≤ i then some (i + n).toNat else none
noncomputable def atI {α : Type} (xs : List α) (i : Int) : Option α := (ixN xs.length i).bind fun j => xs[j]?
theorem ixN_seq {n : Nat} {i : Int} {j : Nat} (h : ixN n i = some j) : seqIndex? i n = some j ∧ j < n ∧ -(n : Int) ≤ i ∧ i < n := by
  unfold ixN at h
  by_cases h0 : 0 ≤ i
  · rw [if_pos h0] at h
    by_cases h1 : i < n
    · rw [if_pos h1] at h
      have e : i.toNat = j := Option.some.inj h
      exact ⟨by rw [seqIndex_of h0 h1, e], by omega, by omega, h1⟩
    · rw [if_neg h1] at h; cases h
  · rw [if_neg h0] at h
    by_cases h1 : -(n : Int) ≤ i
    · rw [if_pos h1] at h
      have e : (i + n).toNat = j := Option.some.inj h
      exact ⟨by rw [seqIndex_neg (by omega) h1, e], by omega, h1, by omega⟩
    · rw [if_neg h1] at h; cases h
theorem atI_get {α : Type} {xs : List α} {i : Int} {v : α} (h : atI xs i = some v) : ∃ j, seqIndex? i xs.length = some j ∧ xs[j]? = some v ∧ j < xs.length ∧ -(xs.length : Int) ≤ i ∧ i < xs.length := by
  unfold atI at h
  cases e : ixN xs.length i with
  | none => rw [e] at h; cases h
  | some j =>
    rw [e] at h
    obtain ⟨h1, h2, h3, h4⟩ := ixN_seq e
    exact ⟨j, h1, h, h2, h3, h4⟩
theorem atI_nat {α : Type} {xs : List α} {j : Nat} {v : α} (h : xs[j]? = some v) : atI xs (j : Int) = some v := by
  have hj : j < xs.length := (List.getElem?_eq_some_iff.mp h).1
  have e : ixN xs.length (j : Int) = some j := by
    unfold ixN
    rw [if_pos (by omega), if_pos (by omega)]; simp
  unfold atI; rw [e]; exact h
noncomputable def PlainIx (b : Expr) : Prop := ∀ o i, subscripted b false o i = operate [o, i] (getItem o i)
noncomputable def IxR (X : Cx) (r : R2) : Prop :=
  ∀ (value slice : Expr) (pins : List (Addr × Obj)) (s : Shared) (σ : St) (H : Hp) (x y : V) (v u : Value) (Q : VK), Inv X pins σ H s → RelV x v → RelV y u → r x y H Q →
    subscripted slice false v u = operate [v, u] (getItem v u) → wpAny (model X.prog X.w) X.A (subscriptTail value slice v u) (EP X pins σ Q) X.xe s
noncomputable def MtR (X : Cx) (id : String) (r : V → List V → Hp → VK → Prop) : Prop :=
  ∀ (pins : List (Addr × Obj)) (s : Shared) (σ : St) (H : Hp) (x : V) (xs : List V) (v : Value) (us : List Value) (Q : VK), Inv X pins σ H s → RelV x v → Vals xs us → r x xs H Q →
    wpAny (model X.prog X.w) X.A (call (.builtin id) (v :: us)) (EP X pins σ Q) X.xe s
section
variable {X : Cx} {a b : Expr} {ta tb : TE} {pos : Pos}
theorem IxR.or {r r' : R2} (h : IxR X r) (h' : IxR X r') : IxR X (fun x y H Q => r x y H Q ∨ r' x y H Q) := by
  intro value slice pins s σ H x y v u Q I rx ry q hs
  rcases q with q | q
  · exact h value slice pins s σ H x y v u Q I rx ry q hs
  · exact h' value slice pins s σ H x y v u Q I rx ry q hs
theorem MtR.or {id : String} {r r' : V → List V → Hp → VK → Prop} (h : MtR X id r) (h' : MtR X id r') : MtR X id (fun x xs H Q => r x xs H Q ∨ r' x xs H Q) := by
  intro pins s σ H x xs v us Q I rx rs q
  rcases q with q | q
  · exact h pins s σ H x xs v us Q I rx rs q
  · exact h' pins s σ H x xs v us Q I rx rs q
theorem pe_ix {r : R2} (hr : IxR X r) (ha : PE X a ta) (hb : PE X b tb) (hs : PlainIx b) : PE X (.Subscript a b pos) (tOp r ta tb) := by
  intro pins s σ H Q I h
  exact Subscript_ (binT ha hb I h fun v u s2 x y H2 I2 rx ry q => hr a b pins s2 σ H2 x y v u Q I2 rx ry q (hs _ _))

noncomputable def rIxL (K : PySem.W.Frag) : R2 := fun x y H Q => ∃ p xs i v, x = .ref p ∧ y = .int i ∧ SqL K H p xs ∧ atI xs i = some v ∧ Q v H
noncomputable def rIxT (K : PySem.W.Frag) : R2 := fun x y H Q => ∃ p xs i v, x = .ref p ∧ y = .int i ∧ SqT K H p xs ∧ atI xs i = some v ∧ Q v H
noncomputable def rIxS : R2 := fun x y H Q => ∃ z i c, x = .str z ∧ y = .int i ∧ z.length ≤ sizeLine ∧ atI z.cps.toList i = some c ∧ Q (.str ⟨#[c]⟩) H
theorem ix_list : IxR X (rIxL X.K) := by
  intro value slice pins s σ H x y v u Q I rx ry h hs
  obtain ⟨p, xs, i, z, rfl, rfl, hq, he, q⟩ := h
  cases rx
  obtain ⟨t, rfl⟩ := ry
  obtain ⟨its, r, pl, hz⟩ := I.list hq
  obtain ⟨j, h1, h2, h3, h4, h5⟩ := atI_get he
  obtain ⟨w, ew, rw'⟩ := r.get h2
  have hl := r.length
  have hn := line63
  have fin : EP X pins σ Q w s := ⟨z, H, I, rw', q⟩
  by_cases h0 : 0 ≤ i
  · have hj : i.toNat = j := by
      rw [seqIndex_of h0 h5] at h1
      exact Option.some.inj h1
    exact item_listR pl.isList h0 (by omega) (by rw [hj]; simpa using ew) fin hs
  · have hj : (i + (its.toArray.size : Int)).toNat = j := by
      rw [seqIndex_neg (by omega) h4] at h1
      rw [List.size_toArray, ← hl]
      exact Option.some.inj h1
    exact subscriptTail_builtinR (x := w) pl.isList.typeIs slot_list_getitem.lookup
      (wpAny_getItem_list_neg (Q := fun r s' => r = w ∧ EP X pins σ Q r s') pl.isList (by omega) (by rw [List.size_toArray] <;> omega) (by omega) (by rw [hj]; simpa using ew) ⟨rfl, fin⟩) hs
theorem ix_tup : IxR X (rIxT X.K) := by
  intro value slice pins s σ H x y v u Q I rx ry h hs
  obtain ⟨p, xs, i, z, rfl, rfl, hq, he, q⟩ := h
  cases rx
  obtain ⟨t, rfl⟩ := ry
  obtain ⟨its, r, pl, hz⟩ := I.tuple hq
  obtain ⟨j, h1, h2, h3, h4, h5⟩ := atI_get he
  obtain ⟨w, ew, rw'⟩ := r.get h2
  have hl := r.length
  have hn := line63
  have fin : EP X pins σ Q w s := ⟨z, H, I, rw', q⟩
  exact subscriptTail_builtinR (x := w) pl.typeIs slot_tuple_getitem.lookup
    (getItem_tuple (j := j) (Q := fun r s' => r = w ∧ EP X pins σ Q r s') pl (by omega) (by omega) (by rw [List.size_toArray, ← hl]; exact h1) (by simpa using ew) ⟨rfl, fin⟩) hs
theorem ix_str : IxR X rIxS := by
  intro value slice pins s σ H x y v u Q I rx ry h hs
  obtain ⟨z, i, c, rfl, rfl, hz, he, q⟩ := h
  obtain ⟨t, rfl⟩ := rx
  obtain ⟨t', rfl⟩ := ry
  obtain ⟨j, h1, h2, h3, h4, h5⟩ := atI_get he
  have hl : z.cps.toList.length = z.length := by simp [Str.length]
  rw [hl] at h1 h4 h5
  have hn := line63
  exact tail_any (typeIs_str s z t) slot_str_getitem.lookup (getItem_str (c := c) (by
    have e1 : decide (i < -(2 ^ 63 : Int)) = false := decide_eq_false (by omega)
    have e2 : decide (i ≥ 2 ^ 63) = false := decide_eq_false (by omega)
    rw [e1, e2, Bool.or_false]) (by rw [h1]; simpa using h2) ⟨.str ⟨#[c]⟩, H, I.tok _, ⟨_, rfl⟩, q⟩) hs
theorem mapSeq_set (its : List Value) (n j : Nat) (u : Value) : Obj.mapSeq (·.setIfInBounds j u) { cls := .type "list", data := .seq its.toArray n } = { cls := .type "list", data := .seq (its.set j u).toArray n } := by
  simp [Obj.mapSeq]
theorem Inv.lst {pins : List (Addr × Obj)} {σ : St} {H : Hp} {s : Shared} {p : Addr} {xs : List V} (I : Inv X pins σ H s) (h : H p = some (.lst xs)) :
    ∃ (its : List Value) (n : Nat), Vals xs its ∧ s.heap.get? p = some { cls := .type "list", data := .seq its.toArray n } ∧ xs.length ≤ sizeLine := by
  obtain ⟨z, its, n, r, e⟩ := I.hok p _ h
  exact ⟨its, n, r, e, z⟩
theorem Inv.lstUpd {pins : List (Addr × Obj)} {σ : St} {H : Hp} {s : Shared} {p : Addr} {xs ys : List V} {its its' : List Value} {n n' : Nat} {f : Obj → Obj} (I : Inv X pins σ H s) (h : H p = some (.lst xs))
    (ho : s.heap.get? p = some { cls := .type "list", data := .seq its.toArray n }) (hf : f { cls := .type "list", data := .seq its.toArray n } = { cls := .type "list", data := .seq its'.toArray n' }) (r : Vals ys its') (hz : ys.length ≤ sizeLine) (t : Nat) :
    Inv X pins σ (upd H p (.lst ys)) { s with heap := s.heap.update p f, toks := t } := by
  have e : (s.heap.update p f).get? p = some { cls := .type "list", data := .seq its'.toArray n' } := by
    rw [Heap.get?_update_self f ho (by rw [hf] <;> rfl), hf]
  refine I.write (x := p) (e := p) (by rw [h]; trivial) (.inl rfl) (fun b u hb q => (Heap.get?_update_other _ _ (Ne.symm hb)).trans q) ⟨_, e⟩ ?_
  exact ⟨hz, its', n', r, e⟩
noncomputable def rSetL : V → V → V → Hp → (Hp → Prop) → Prop := fun o i v H Q => ∃ p xs k j, o = .ref p ∧ i = .int k ∧ H p = some (.lst xs) ∧ ixN xs.length k = some j ∧ Q (upd H p (.lst (xs.set j v)))
theorem set_list : PSet X rSetL := by
  intro pins s σ H o i v ov iv u Q I ro ri rv h
  obtain ⟨p, xs, k, j, rfl, rfl, hp, hj, q⟩ := h
  cases ro
  obtain ⟨t, rfl⟩ := ri
  obtain ⟨its, n, r, ho, hz⟩ := I.lst hp
  obtain ⟨h1, h2, h3, h4⟩ := ixN_seq hj
  have hl := r.length
  have hn := line63
  have I' : Inv X pins σ (upd H p (.lst (xs.set j v))) { s with heap := s.heap.update p (Obj.mapSeq (·.setIfInBounds j u)) } :=
    I.lstUpd hp ho (mapSeq_set its n j u) (r.set rv j) (by rw [List.length_set]; exact hz) s.toks
  by_cases h0 : 0 ≤ k
  · have hk : k.toNat = j := by
      rw [seqIndex_of h0 h4] at h1
      exact Option.some.inj h1
    exact PySem.W.ki_setAt ho h0 (by omega) (by rw [List.size_toArray, ← hl]; exact h4) (by rw [hk]; exact ⟨_, I', q⟩)
  · have hk : (k + (its.toArray.size : Int)).toNat = j := by
      rw [seqIndex_neg (by omega) h3] at h1
      rw [List.size_toArray, ← hl]
      exact Option.some.inj h1
    exact PySem.W.ki_setBack ho (by omega) (by rw [List.size_toArray, ← hl]; exact h3) (by omega) (by rw [hk]; exact ⟨_, I', q⟩)

theorem slice_bounds (lo hi : Option Int) (n : Nat) : (sliceBounds lo hi none n).1 = ((HT.sIx n 0 lo : Nat) : Int) ∧ (sliceBounds lo hi none n).2.1 = ((HT.sIx n n hi : Nat) : Int) ∧ (sliceBounds lo hi none n).2.2 = 1 := by
  refine ⟨?_, ?_, rfl⟩
  · cases lo with
    | none => simp [sliceBounds, HT.sIx]
    | some i =>
      simp only [sliceBounds, HT.sIx, Option.getD_none, show (1 : Int) > 0 by decide, if_true]
      by_cases h : i < 0
      · simp only [h, if_true] <;> omega
      · simp only [h, if_false] <;> omega
  · cases hi with
    | none => simp [sliceBounds, HT.sIx]
    | some i =>
      simp only [sliceBounds, HT.sIx, Option.getD_none, show (1 : Int) > 0 by decide, if_true]
      by_cases h : i < 0
      · simp only [h, if_true] <;> omega
      · simp only [h, if_false] <;> omega
theorem slicePick_cut (its : List Value) (lo hi : Option Int) : slicePick its.toArray lo hi none = ((its.drop (HT.sIx its.length 0 lo)).take (HT.sIx its.length its.length hi - HT.sIx its.length 0 lo)).toArray := by
  obtain ⟨h1, h2, h3⟩ := slice_bounds lo hi its.toArray.size
  unfold slicePick
  rw [h1, h2, h3]
  simp only [sliceRange_one, pick_run, List.size_toArray] <;> rfl
noncomputable def rSlL (K : PySem.W.Frag) : V → Option Int → Option Int → Hp → VK → Prop := fun x lo hi H Q => ∃ a xs, x = .ref a ∧ SqL K H a xs ∧ ∀ p, H p = none → Q (.ref p) (upd H p (.lst (cutV xs lo hi)))
theorem sl_list : SlR X (rSlL X.K) := by
  intro pins s σ H x v vl vu lo hi sl Q I rx hs pl pu h
  obtain ⟨a, xs, rfl, hx, q⟩ := h
  cases rx
  obtain ⟨its, r, ht, hz⟩ := I.list hx
  have hlen := r.length
  refine ⟨"list", _, slot_list_getitem.lookup, ht.isList.typeIs, ?_⟩
  refine wpAny_getItem_list_slice ht.isList hs pl pu .none (by simp) ?_ (by rw [List.size_toArray] <;> omega)
  rw [slicePick_cut, ← hlen]
  refine ⟨.ref s.heap.objs.size, _, I.laid (t' := s.toks) (o := .lst (cutV xs lo hi)) (fun b ob q => Heap.get?_push_of_some _ q) (Nat.le_refl _) ?_, rfl, q _ (I.hok.fresh (Nat.le_refl _))⟩
  exact ⟨Nat.le_trans (cutV_length xs lo hi) hz, _, 0, (r.drop (HT.sIx xs.length 0 lo)).take (HT.sIx xs.length xs.length hi - HT.sIx xs.length 0 lo), Heap.get?_push_size _ rfl⟩

noncomputable def flatV : V → Bool
  | .non => true
  | .bl _ => true
  | .int _ => true
  | .str _ => true
  | _ => false
noncomputable def eqV : V → V → Bool
  | .non, .non => true
  | .bl a, .bl b => a == b
  | .bl a, .int b => (if a then 1 else 0) == b
  | .int a, .bl b => a == (if b then 1 else 0)
  | .int a, .int b => a == b
  | .str a, .str b => a == b
  | _, _ => false
theorem eqAt_V {A : Around} {s : Shared} {y x : V} {u v : Value} (ry : RelV y u) (rx : RelV x v) (fy : flatV y = true) (fx : flatV x = true) : SeqAt.EqAt A s u v (eqV y x) := by
  cases y with
  | non =>
    cases ry
    cases x with
    | non => cases rx; exact SeqAt.EqAt.same _
    | bl b => cases rx; exact SeqAt.EqAt.none_bool b
    | int b => obtain ⟨t, rfl⟩ := rx; exact SeqAt.EqAt.none_int b t
    | str b => obtain ⟨t, rfl⟩ := rx; exact SeqAt.EqAt.none_str b t
    | _ => exact absurd (show false = true from fx) Bool.false_ne_true
  | bl a =>
    cases ry
    cases x with
    | non => cases rx; exact SeqAt.EqAt.bool_none a
    | bl b => cases rx; exact SeqAt.EqAt.bool_bool a b
    | int b => obtain ⟨t, rfl⟩ := rx; exact SeqAt.EqAt.bool_int a b t
    | str b => obtain ⟨t, rfl⟩ := rx; exact SeqAt.EqAt.bool_str a b t
    | _ => exact absurd (show false = true from fx) Bool.false_ne_true
  | int a =>
    obtain ⟨t', rfl⟩ := ry
    cases x with
    | non => cases rx; exact SeqAt.EqAt.int_none a t'
    | bl b => cases rx; exact SeqAt.EqAt.int_bool a t' b
    | int b => obtain ⟨t, rfl⟩ := rx; exact SeqAt.EqAt.int_int a t' b t
    | str b => obtain ⟨t, rfl⟩ := rx; exact SeqAt.EqAt.int_str a t' b t
    | _ => exact absurd (show false = true from fx) Bool.false_ne_true
  | str a =>
    obtain ⟨t', rfl⟩ := ry
    cases x with
    | non => cases rx; exact SeqAt.EqAt.str_none a t'
    | bl b => cases rx; exact SeqAt.EqAt.str_bool a t' b
    | int b => obtain ⟨t, rfl⟩ := rx; exact SeqAt.EqAt.str_int a t' b t
    | str b => obtain ⟨t, rfl⟩ := rx; exact SeqAt.EqAt.str_str a t' b t
    | _ => exact absurd (show false = true from fx) Bool.false_ne_true
  | _ => exact absurd (show false = true from fy) Bool.false_ne_true
noncomputable def eqU (x : V) (u : Value) : Bool := match u with
  | .none => eqV .non x
  | .bool b => eqV (.bl b) x
  | .int i _ => eqV (.int i) x
  | .str z _ => eqV (.str z) x
  | _ => false
theorem eqU_of {x y : V} {u : Value} (r : RelV y u) (f : flatV y = true) : eqU x u = eqV y x := by
  cases y with
  | non => cases r; rfl
  | bl b => cases r; rfl
  | int i => obtain ⟨t, rfl⟩ := r; rfl
  | str z => obtain ⟨t, rfl⟩ := r; rfl
  | _ => exact absurd (show false = true from f) Bool.false_ne_true
theorem any_eqU {x : V} : ∀ {xs : List V} {us : List Value}, Vals xs us → xs.all flatV = true → us.any (eqU x) = xs.any fun y => eqV y x
  | _, _, .nil, _ => rfl
  | y :: xs, u :: us, .cons r t, f => by
    rw [List.all_cons, Bool.and_eq_true] at f
    rw [List.any_cons, List.any_cons, eqU_of r f.1, any_eqU t f.2]
theorem mem_eqAt {A : Around} {s : Shared} {x : V} {v : Value} (rx : RelV x v) (fx : flatV x = true) : ∀ {xs : List V} {us : List Value}, Vals xs us → xs.all flatV = true → ∀ u ∈ us, SeqAt.EqAt A s u v (eqU x u)
  | _, _, .nil, _ => fun u hu => by cases hu
  | y :: xs, u :: us, .cons r t, f => fun u' hu => by
    rw [List.all_cons, Bool.and_eq_true] at f
    rcases List.mem_cons.mp hu with rfl | hu
    · rw [eqU_of r f.1]; exact eqAt_V r rx f.1 fx
    · exact mem_eqAt rx fx t f.2 u' hu
noncomputable def inV (x : V) (xs : List V) : Bool := xs.any fun y => eqV y x
noncomputable def rIn (K : PySem.W.Frag) (neg : Bool) : R2 := fun x y H Q => ∃ p xs, y = .ref p ∧ (SqL K H p xs ∨ SqT K H p xs) ∧ flatV x = true ∧ xs.all flatV = true ∧ Q (.bl (if neg then !inV x xs else inV x xs)) H
theorem op_notIn_seq : OpR X (compareOp .NotIn) (rIn X.K true) := by
  intro pins s σ H x y v u Q I rx ry h
  obtain ⟨p, xs, rfl, hq, fx, fs, q⟩ := h
  cases ry
  rcases hq with hq | hq
  · obtain ⟨its, r, pl, hz⟩ := I.list hq
    refine SeqAt.notIn_listAt (eqU x) pl.isList (fun w hw => mem_eqAt rx fx r fs w (by simpa using hw)) ⟨.bl _, H, I, rfl, ?_⟩
    rw [show its.toArray.any (eqU x) = its.any (eqU x) by simp, any_eqU r fs]
    exact q
  · obtain ⟨its, r, pl, hz⟩ := I.tuple hq
    refine SeqAt.notIn_tupleAt (eqU x) pl (fun w hw => mem_eqAt rx fx r fs w (by simpa using hw)) ⟨.bl _, H, I, rfl, ?_⟩
    rw [show its.toArray.any (eqU x) = its.any (eqU x) by simp, any_eqU r fs]
    exact q
theorem call_len_seq : CallR X (.builtin "len") (fun xs H Q => ∃ p ys, xs = [.ref p] ∧ (SqL X.K H p ys ∨ SqT X.K H p ys) ∧ Q (.int ys.length) H) := by
  intro pins s σ H xs us Q I r h
  obtain ⟨p, ys, rfl, hq, q⟩ := h
  obtain ⟨u, rfl, rx⟩ := vals1 r
  cases rx
  have hn := line63
  rcases hq with hq | hq
  · obtain ⟨its, r', pl, hz⟩ := I.list hq
    have hlen := r'.length
    exact Calls.call_len_list pl.isList (by simp only [List.size_toArray] <;> omega) ⟨.int ys.length, H, I.tok _, ⟨s.toks + 1, by rw [List.size_toArray, hlen]⟩, q⟩
  · obtain ⟨its, r', pl, hz⟩ := I.tuple hq
    have hlen := r'.length
    exact len_tuple pl (by simp only [List.size_toArray] <;> omega) ⟨.int ys.length, H, I.tok _, ⟨s.toks + 1, by rw [List.size_toArray, hlen]⟩, q⟩
theorem call_len_str : CallR X (.builtin "len") (fun xs H Q => ∃ z, xs = [.str z] ∧ z.length ≤ sizeLine ∧ Q (.int z.length) H) := by
  intro pins s σ H xs us Q I r h
  obtain ⟨z, rfl, hz, q⟩ := h
  obtain ⟨u, rfl, t, rfl⟩ := vals1 r
  have hn := line63
  exact len_str (by omega) ⟨.int z.length, H, I.tok _, ⟨_, rfl⟩, q⟩
theorem CallR.or {f : Value} {r r' : List V → Hp → VK → Prop} (h : CallR X f r) (h' : CallR X f r') : CallR X f (fun xs H Q => r xs H Q ∨ r' xs H Q) := by
  intro pins s σ H xs us Q I rs q
  rcases q with q | q
  · exact h pins s σ H xs us Q I rs q
  · exact h' pins s σ H xs us Q I rs q
theorem call_tuple_of : CallR X (.type "tuple") (fun xs H Q => ∃ p ys, xs = [.ref p] ∧ ((SqL X.K H p ys ∧ ∀ l, H l = none → Q (.ref l) (upd H l (.tup ys))) ∨ (SqT X.K H p ys ∧ Q (.ref p) H))) := by
  intro pins s σ H xs us Q I r h
  obtain ⟨p, ys, rfl, h⟩ := h
  obtain ⟨u, rfl, rx⟩ := vals1 r
  cases rx
  rcases h with ⟨hq, q⟩ | ⟨hq, q⟩
  · obtain ⟨its, r', pl, hz⟩ := I.list hq
    have hlen := r'.length
    refine call_tuple_list pl.isList (fun h' kp => ?_) (by simp only [List.size_toArray] <;> omega)
    have I1 : Inv X pins σ H { s with heap := h' } := I.kept (t' := s.toks) kp
    have I2 : Inv X pins σ (upd H h'.objs.size (.tup ys)) { s with heap := h'.push { cls := .type "tuple", data := .seq its.toArray } } :=
      I1.laid (t' := s.toks) (fun b o e => Heap.get?_push_of_some _ e) (Nat.le_refl _) (show ObjOk X.prog X.w _ _ _ (.tup ys) from ⟨hz, its, r', IsTup.new _ _⟩)
    exact ⟨.ref h'.objs.size, _, I2, rfl, q _ (I1.hok.fresh (Nat.le_refl _))⟩
  · obtain ⟨its, r', pl, hz⟩ := I.tuple hq
    exact call_tuple_same pl ⟨.ref p, H, I, rfl, q⟩

noncomputable def tyV (K : PySem.W.Frag) (T : String) (x : V) (H : Hp) : Prop := match x with
  | .str _ => T = "str"
  | .int _ => T = "int"
  | .ref p => (T = "list" ∧ ∃ xs, SqL K H p xs) ∨ (T = "tuple" ∧ ∃ o, K.lookup p = some o ∧ o.cls = .type "tuple" ∧ o.dict = none) ∨
      (T = "dict" ∧ ((∃ kvs, H p = some (.dK kvs)) ∨ ∃ kvs, H p = some (.dT kvs))) ∨ (T = "set" ∧ ∃ S n, H p = some (.set S n))
  | _ => False
theorem tyV_is {pins : List (Addr × Obj)} {σ : St} {H : Hp} {s : Shared} {T : String} {x : V} {v : Value} (I : Inv X pins σ H s) (r : RelV x v) (ty : tyV X.K T x H) :
    s.TypeIs v T ∧ ∀ a, v = .ref a → ∃ ob, s.heap.get? a = some ob ∧ ob.dict = none := by
  cases x with
  | str z =>
    obtain ⟨t, rfl⟩ := r
    cases (show T = "str" from ty)
    exact ⟨typeIs_str s z t, fun _ e => nomatch e⟩
  | int i =>
    obtain ⟨t, rfl⟩ := r
    cases (show T = "int" from ty)
    exact ⟨typeIs_int s i t, fun _ e => nomatch e⟩
  | ref p =>
    cases r
    rcases ty with ⟨rfl, xs, hq⟩ | ⟨rfl, o, hk, hc, hd⟩ | ⟨rfl, hk⟩ | ⟨rfl, S, n, hk⟩
    · obtain ⟨its, _, pl, _⟩ := I.list hq
      refine ⟨pl.isList.typeIs, fun a e => ?_⟩
      cases e
      obtain ⟨o, n, e, c, hd, _⟩ := pl
      exact ⟨o, e, hd⟩
    · refine ⟨⟨o, I.kIn p o hk, hc⟩, fun a e => ?_⟩
      cases e
      exact ⟨o, I.kIn _ o hk, hd⟩
    · have z : ∃ o, s.heap.get? p = some o ∧ o.ExactDict := by
        rcases hk with ⟨kvs, hk⟩ | ⟨kvs, hk⟩
        · obtain ⟨_, _, _, _, o, _, _, e, ex, _⟩ := I.hok p _ hk
          exact ⟨o, e, ex⟩
        · obtain ⟨_, _, _, _, o, _, _, e, ex, _⟩ := I.hok p _ hk
          exact ⟨o, e, ex⟩
      obtain ⟨o, e, ex⟩ := z
      refine ⟨⟨o, e, ex.1⟩, fun a e2 => ?_⟩
      cases e2
      exact ⟨o, e, ex.2.1⟩
    · obtain ⟨o, _, _, _, e, ex, _⟩ := I.hok p _ hk
      refine ⟨⟨o, e, ex.1⟩, fun a e2 => ?_⟩
      cases e2
      exact ⟨o, e, ex.2.1⟩
  | _ => exact False.elim ty
noncomputable def tBM (K : PySem.W.Frag) (T : String) (r : V → List V → Hp → VK → Prop) (to : TE) (t : TA) : TE := fun σ H Q => to σ H fun x H1 => tyV K T x H1 ∧ t σ H1 fun xs H2 => r x xs H2 Q
variable {o e : Expr} {es : List Expr} {to : TE} {t : TA} {name : Str} {apos cpos : Pos} {T id : String} {r : V → List V → Hp → VK → Prop}
theorem pe_bm (pa : PlainAttrs T) (slot : Slot T name id) (hty : typeOf (.builtin id) = pure (.type "method_descriptor")) (hm : MtR X id r) (ho : PE X o to) (ha : PA X (e :: es) t)
    (hbase : attributeBase o name X.env (eval o X.env) = eval o X.env := by rfl)
    (hfew : ((backTo cpos (starEach (e :: es) X.env)).all (fun x => !x.1) && (backToKw cpos (keywordEach [] X.env)).all (fun x => x.1.isSome)
      && decide ((e :: es).length + ([] : List Keyword).length + (if ([] : List Keyword).isEmpty then 0 else 1) < 30)) = true := by rfl)
    (hline : (apos.endLine == cpos.line) = true := by rfl) (hs : starEach (e :: es) X.env = (false, eval e X.env) :: starEach es X.env := by rfl) (hplain : (backTo cpos (starEach es X.env)).any (·.1) = false := by rfl) :
    PE X (.Call (.Attribute o name apos) (e :: es) [] cpos) (tBM X.K T r to t) := by
  intro pins s σ H Q I h
  refine wpAny_Call_method_late hbase hfew hline rfl (thn (ho pins s σ H _ I h) fun v s1 ⟨x, H1, I1, r1, ty, q1⟩ => ?_)
  obtain ⟨h1, h2⟩ := tyV_is I1 r1 ty
  refine ⟨T, id, pa, slot, hty, h1, h2, ?_⟩
  have hA := ha cpos pins s1 σ H1 _ I1 q1
  rw [hs] at hA ⊢
  refine Calls.callWith_builtin (by show (false || (backTo cpos (starEach es X.env)).any (·.1)) = false; rw [hplain] <;> rfl) (Calls.evalArgs_plain ?_)
  exact thn hA fun us s2 ⟨vs, H2, I2, r2, q2⟩ => hm pins s2 σ H2 x vs v us Q I2 r1 r2 q2
end
end L2

namespace L2
open PySem PySem.Spec PyProof.Rows

noncomputable def MtM (X : Cx) (id : String) (r : V → List V → Hp → VK → Prop) : Prop :=
  ∀ (pins : List (Addr × Obj)) (s : Shared) (σ : St) (H : Hp) (x : V) (xs : List V) (v : Value) (us : List Value) (Q : VK), Inv X pins σ H s → RelV x v → Vals xs us → r x xs H Q →
    wpAny (model X.prog X.w) X.A (call (.builtin id) (v :: us)) (EP X pins σ Q) X.xe s

theorem Vals.one : ∀ {x : V} {us : List Value}, Vals [x] us → ∃ u, us = [u] ∧ RelV x u
  | _, _, .cons r .nil => ⟨_, rfl, r⟩
theorem Vals.two : ∀ {x y : V} {us : List Value}, Vals [x, y] us → ∃ u v, us = [u, v] ∧ RelV x u ∧ RelV y v
  | _, _, _, .cons r (.cons q .nil) => ⟨_, _, rfl, r, q⟩
theorem Vals.zero : ∀ {us : List Value}, Vals [] us → us = []
  | _, .nil => rfl
theorem Vals.dropLast {xs : List V} {us : List Value} (h : Vals xs us) : Vals xs.dropLast us.dropLast := by
  induction h with
  | nil => exact .nil
  | cons r t ih =>
    cases t with
    | nil => exact .nil
    | cons q t' => exact .cons r ih
theorem Vals.eraseIdx : ∀ {xs : List V} {us : List Value} (i : Nat), Vals xs us → Vals (xs.eraseIdx i) (us.eraseIdx i)
  | _, _, _, .nil => .nil
  | _, _, 0, .cons _ t => t
  | _, _, i + 1, .cons r t => .cons r (Vals.eraseIdx i t)
theorem Vals.reverse {xs : List V} {us : List Value} (h : Vals xs us) : Vals xs.reverse us.reverse := by
  induction h with
  | nil => exact .nil
  | cons r t ih => rw [List.reverse_cons, List.reverse_cons]; exact Vals.append ih (.cons r .nil)
theorem Vals.rep {xs : List V} {us : List Value} (h : Vals xs us) : ∀ k : Nat, Vals (List.replicate k xs).flatten (List.replicate k us).flatten
  | 0 => .nil
  | k + 1 => by
    rw [List.replicate_succ, List.replicate_succ, List.flatten_cons, List.flatten_cons]
    exact Vals.append h (Vals.rep h k)
theorem len_erase {α : Type} : ∀ (l : List α) (i : Nat), (l.eraseIdx i).length ≤ l.length
  | [], _ => Nat.le_refl _
  | _ :: _, 0 => Nat.le_succ _
  | _ :: r, i + 1 => Nat.succ_le_succ (len_erase r i)
section
variable {X : Cx} {pins : List (Addr × Obj)} {σ : St} {H : Hp} {s : Shared} {l b : Addr} {xs ys zs : List V}

theorem Inv.lset {its its' : List Value} {n : Nat} {f : Array Value → Array Value} {t' : Nat} (I : Inv X pins σ H s) (hH : H l = some (.lst xs))
    (e : s.heap.get? l = some { cls := .type "list", data := .seq its.toArray n }) (hf : f its.toArray = its'.toArray) (hv : Vals ys its') (hz : ys.length ≤ sizeLine) :
    Inv X pins σ (upd H l (.lst ys)) { s with heap := s.heap.update l (Obj.mapSeq f), toks := t' } := by
  have q := PySem.IsL.update e f
  rw [hf] at q
  refine I.write (x := l) (e := l) (by rw [hH]; exact trivial) (.inl rfl) (fun b' u hb hu => (Heap.get?_update_other s.heap (Obj.mapSeq f) (Ne.symm hb)).trans hu) ⟨_, q⟩ ?_
  exact ⟨hz, its', _, hv, q⟩
theorem Inv.lnew {its : List Value} {t' : Nat} (I : Inv X pins σ H s) (hv : Vals ys its) (hz : ys.length ≤ sizeLine) :
    Inv X pins σ (upd H s.heap.objs.size (.lst ys)) { s with heap := s.heap.push { cls := .type "list", data := .seq its.toArray }, toks := t' } :=
  I.laid (fun _ _ q => Heap.get?_push_of_some _ q) (Nat.le_refl _) ⟨hz, its, 0, hv, Heap.get?_push_size _ rfl⟩
theorem Inv.fresh (I : Inv X pins σ H s) : H s.heap.objs.size = none := I.hok.fresh (Nat.le_refl _)
theorem Inv.lstM (I : Inv X pins σ H s) (hH : H l = some (.lst xs)) : xs.length ≤ sizeLine ∧ ∃ (its : List Value) (n : Nat), Vals xs its ∧ xs.length = its.length ∧ s.heap.get? l = some { cls := .type "list", data := .seq its.toArray n } := by
  obtain ⟨z, its, n, r, e⟩ := I.hok l _ hH
  exact ⟨z, its, n, r, r.length, e⟩

end

section
variable {X : Cx}

noncomputable def rAppend : V → List V → Hp → VK → Prop := fun x vs H Q => ∃ l xs y, x = .ref l ∧ vs = [y] ∧ H l = some (.lst xs) ∧ xs.length < sizeLine ∧ Q .non (upd H l (.lst (xs ++ [y])))
theorem mt_append : MtM X "list.append" rAppend := by
  intro pins s σ H x vs v us Q I rx rv h
  obtain ⟨l, xs, y, rfl, rfl, hH, hz, q⟩ := h
  cases rx
  obtain ⟨u, rfl, ru⟩ := rv.one
  obtain ⟨z, its, n, r, hl, e⟩ := I.lstM hH
  refine call_meets F.slot_list_append ⟨_, e, rfl⟩ F.entry_list_append (F.args_list_append_2 _ _) (PySem.list_append l its.toArray n u (by rw [List.size_toArray]; omega)) ⟨e, ?_⟩
  refine ⟨.non, _, I.lset (its' := its ++ [u]) hH e (by simp) (r.append (.cons ru .nil)) ?_, rfl, q⟩
  rw [List.length_append, List.length_singleton]
  omega

noncomputable def rPopAt : V → List V → Hp → VK → Prop := fun x vs H Q => ∃ l xs i k y, x = .ref l ∧ vs = [.int i] ∧ H l = some (.lst xs) ∧ -(2 ^ 63) ≤ i ∧ i < 2 ^ 63 ∧ seqIndex? i xs.length = some k ∧ xs[k]? = some y ∧ Q y (upd H l (.lst (xs.eraseIdx k)))
theorem mt_popAt : MtM X "list.pop" rPopAt := by
  intro pins s σ H x vs v us Q I rx rv h
  obtain ⟨l, xs, i, k, y, rfl, rfl, hH, h1, h2, hk, hy, q⟩ := h
  cases rx
  obtain ⟨u, rfl, ru⟩ := rv.one
  obtain ⟨t, rfl⟩ := ru
  obtain ⟨z, its, n, r, hl, e⟩ := I.lstM hH
  obtain ⟨w, hw, rw'⟩ := r.get hy
  refine call_meets F.slot_list_pop ⟨_, e, rfl⟩ F.entry_list_pop (F.args_list_pop_2 _ _)
    (MeetsSeq.list_pop_at l its.toArray n i t k w (fitsIndex_both h1 h2) (by rw [List.size_toArray, ← hl]; exact hk) (by rw [← Array.getElem?_toList]; exact hw) (by rw [List.size_toArray]; omega)) ⟨e, ?_⟩
  refine ⟨y, _, I.lset (its' := its.eraseIdx k) hH e ?_ (r.eraseIdx k) ?_, rw', q⟩
  · show its.toArray.eraseIdxIfInBounds k = (its.eraseIdx k).toArray
    rw [List.eraseIdxIfInBounds_toArray]
  · have := len_erase xs k
    omega

noncomputable def rCat : R2 := fun x y H Q => ∃ l b xs zs, x = .ref l ∧ y = .ref b ∧ H l = some (.lst xs) ∧ H b = some (.lst zs) ∧ xs.length + zs.length ≤ sizeLine ∧ ∀ p, H p = none → Q (.ref p) (upd H p (.lst (xs ++ zs)))
theorem op_cat : OpR X (binaryOp .Add) rCat := by
  intro pins s σ H x y v u Q I rx ry h
  obtain ⟨l, b, xs, zs, rfl, rfl, hH, hB, hz, q⟩ := h
  cases rx
  cases ry
  obtain ⟨z, its, n, r, hl, e⟩ := I.lstM hH
  obtain ⟨z2, its2, n2, r2, hl2, e2⟩ := I.lstM hB
  refine PySem.P.add_list e e2 ?_ (by rw [List.size_toArray, List.size_toArray]; omega)
  have ea : its.toArray ++ its2.toArray = (its ++ its2).toArray := by simp
  rw [ea]
  exact ⟨.ref _, _, I.lnew (t' := s.toks) (r.append r2) (by rw [List.length_append]; omega), rfl, q _ I.fresh⟩
end

section
variable {prog : Program} {w : World} {A : Around} {E : Value → Shared → Prop} {s : Shared}
end

section
variable {X : Cx}
end
end L2

namespace L2
open PySem PySem.Spec PyProof.Rows

section
variable {κ : Type} [DecidableEq κ]
noncomputable def valV (kvs : List (κ × V)) (k : κ) : Option V := (kvs.find? fun kv => decide (kv.1 = k)).map (·.2)
noncomputable def putK (kvs : List (κ × V)) (k : κ) (v : V) : List (κ × V) :=
  if (kvs.any fun kv => decide (kv.1 = k)) = true then kvs.map (fun kv => if kv.1 = k then (kv.1, v) else kv) else kvs ++ [(k, v)]
noncomputable def dropK (kvs : List (κ × V)) (k : κ) : List (κ × V) := kvs.filter fun kv => decide (kv.1 ≠ k)

theorem valV_pos {p : κ × V} {r : List (κ × V)} {k : κ} (e : p.1 = k) : valV (p :: r) k = some p.2 := by simp [valV, List.find?_cons, e]
theorem valV_neg {p : κ × V} {r : List (κ × V)} {k : κ} (e : ¬ p.1 = k) : valV (p :: r) k = valV r k := by simp [valV, List.find?_cons, e]
theorem valV_any (k : κ) : ∀ kvs : List (κ × V), (kvs.any fun kv => decide (kv.1 = k)) = (valV kvs k).isSome
  | [] => rfl
  | p :: r => by
    rw [List.any_cons]
    by_cases e : p.1 = k
    · simp only [valV_pos e, decide_eq_true e, Bool.true_or, Option.isSome_some]
    · rw [valV_neg e, decide_eq_false e, Bool.false_or]; exact valV_any k r
theorem RelO.isSome_eq {o : Option V} {u : Option Value} (r : RelO o u) : o.isSome = u.isSome := by
  cases o with
  | none => cases u with
    | none => rfl
    | some _ => exact (show False from r).elim
  | some _ => cases u with
    | none => exact (show False from r).elim
    | some _ => rfl
theorem RelO.getD {o : Option V} {u : Option Value} {d : V} {d' : Value} (r : RelO o u) (rd : RelV d d') : RelV (o.getD d) (u.getD d') := by
  cases o with
  | none => cases u with
    | none => exact rd
    | some _ => exact (show False from r).elim
  | some _ => cases u with
    | none => exact (show False from r).elim
    | some _ => exact r

theorem KV.val {kvs : List (κ × V)} {vs : List (κ × Value)} (r : KV kvs vs) (k : κ) : RelO (valV kvs k) (valueAt vs k) := by
  unfold KV at r
  induction r with
  | nil => exact True.intro
  | @cons p q ps qs h t ih =>
    obtain ⟨h1, h2⟩ := h
    by_cases e : p.1 = k
    · have e' : q.1 = k := h1.symm.trans e
      have b : valueAt (q :: qs) k = some q.2 := by simp [valueAt, List.find?_cons, e']
      rw [valV_pos e, b]; exact h2
    · have e' : ¬ q.1 = k := fun z => e (h1.trans z)
      have b : valueAt (q :: qs) k = valueAt qs k := by simp [valueAt, List.find?_cons, e']
      rw [valV_neg e, b]; exact ih
theorem KV.any {kvs : List (κ × V)} {vs : List (κ × Value)} (r : KV kvs vs) (k : κ) : (kvs.any fun kv => decide (kv.1 = k)) = vs.any fun kv => decide (kv.1 = k) := by
  unfold KV at r
  induction r with
  | nil => rfl
  | cons h t ih => rw [List.any_cons, List.any_cons, ih, h.1]
theorem KV.repl {kvs : List (κ × V)} {vs : List (κ × Value)} (r : KV kvs vs) (k : κ) {y : V} {u : Value} (ry : RelV y u) :
    KV (kvs.map fun kv => if kv.1 = k then (kv.1, y) else kv) (vs.map fun kv => if kv.1 = k then (kv.1, u) else kv) := by
  unfold KV at r ⊢
  induction r with
  | nil => exact .nil
  | @cons p q ps qs h t ih =>
    rw [List.map_cons, List.map_cons]
    refine .cons ?_ ih
    obtain ⟨h1, h2⟩ := h
    by_cases e : p.1 = k
    · rw [if_pos e, if_pos (h1.symm.trans e)]; exact ⟨h1, ry⟩
    · rw [if_neg e, if_neg (fun z => e (h1.trans z))]; exact ⟨h1, h2⟩
theorem KV.put {kvs : List (κ × V)} {vs : List (κ × Value)} (r : KV kvs vs) (k : κ) {y : V} {u : Value} (ry : RelV y u) : KV (putK kvs k y) (stored vs k u) := by
  unfold putK stored
  rw [r.any k]
  by_cases e : (vs.any fun kv => decide (kv.1 = k)) = true
  · rw [if_pos e, if_pos e]; exact r.repl k ry
  · rw [if_neg e, if_neg e]; exact Paired.snoc r ⟨rfl, ry⟩
theorem KV.drop {kvs : List (κ × V)} {vs : List (κ × Value)} (r : KV kvs vs) (k : κ) : KV (dropK kvs k) (without vs k) := by
  unfold KV at r ⊢
  unfold dropK without
  induction r with
  | nil => exact .nil
  | @cons p q ps qs h t ih =>
    obtain ⟨h1, h2⟩ := h
    rw [List.filter_cons, List.filter_cons]
    by_cases e : p.1 = k
    · have a : ¬ decide (p.1 ≠ k) = true := by simp [e]
      have b : ¬ decide (q.1 ≠ k) = true := by simp [h1.symm.trans e]
      rw [if_neg a, if_neg b]; exact ih
    · have e' : ¬ q.1 = k := fun z => e (h1.trans z)
      have a : decide (p.1 ≠ k) = true := by simp [e]
      have b : decide (q.1 ≠ k) = true := by simp [e']
      rw [if_pos a, if_pos b]; exact .cons ⟨h1, h2⟩ ih
theorem KV.keys {kvs : List (κ × V)} {vs : List (κ × Value)} (r : KV kvs vs) : kvs.map (·.1) = vs.map (·.1) := by
  unfold KV at r
  induction r with
  | nil => rfl
  | cons h t ih => rw [List.map_cons, List.map_cons, ih, h.1]
theorem KV.length {kvs : List (κ × V)} {vs : List (κ × Value)} (r : KV kvs vs) : kvs.length = vs.length := Paired.length r
end


noncomputable abbrev KT (H : Hp) : List (List Key × V) → List (List Key × Addr × Value) → Prop := Paired fun p q => p.1 = q.1 ∧ H q.2.1 = some (.tup (p.1.map kV)) ∧ RelV p.2 q.2.2
theorem KT.val {H : Hp} {kvs : List (List Key × V)} {xs : List (List Key × Addr × Value)} (r : KT H kvs xs) (k : List Key) : RelO (valV kvs k) ((atKey xs k).map (·.2)) := by
  induction r with
  | nil => exact True.intro
  | @cons p q ps qs h t ih =>
    obtain ⟨h1, _, h2⟩ := h
    by_cases e : p.1 = k
    · have e' : q.1 = k := h1.symm.trans e
      have b : atKey (q :: qs) k = some q.2 := by simp [atKey, List.find?_cons, e']
      rw [valV_pos e, b]; exact h2
    · have e' : ¬ q.1 = k := fun z => e (h1.trans z)
      have b : atKey (q :: qs) k = atKey qs k := by simp [atKey, List.find?_cons, e']
      rw [valV_neg e, b]; exact ih
theorem KT.repl {H : Hp} {kvs : List (List Key × V)} {xs : List (List Key × Addr × Value)} (r : KT H kvs xs) (k : List Key) {y : V} {u : Value} (ry : RelV y u) :
    KT H (kvs.map fun kv => if kv.1 = k then (kv.1, y) else kv) (xs.map (putAt k u)) := by
  induction r with
  | nil => exact .nil
  | @cons p q ps qs h t ih =>
    rw [List.map_cons, List.map_cons]
    refine .cons ?_ ih
    obtain ⟨h1, h2, h3⟩ := h
    unfold putAt
    by_cases e : p.1 = k
    · rw [if_pos e, if_pos (h1.symm.trans e)]; exact ⟨h1, h2, ry⟩
    · rw [if_neg e, if_neg (fun z => e (h1.trans z))]; exact ⟨h1, h2, h3⟩
theorem KT.put {H : Hp} {kvs : List (List Key × V)} {xs : List (List Key × Addr × Value)} (r : KT H kvs xs) (k : List Key) {b : Addr} {y : V} {u : Value} (hb : H b = some (.tup (k.map kV))) (ry : RelV y u) :
    KT H (putK kvs k y) (storedH xs k b u) := by
  have e : (kvs.any fun kv => decide (kv.1 = k)) = (atKey xs k).isSome := by
    rw [valV_any, (r.val k).isSome_eq, Option.isSome_map]
  unfold putK storedH
  rw [e]
  by_cases q : (atKey xs k).isSome = true
  · rw [if_pos q, if_pos q]; exact r.repl k ry
  · rw [if_neg q, if_neg q]; exact Paired.snoc r ⟨rfl, hb, ry⟩
theorem KT.keeps {H H' : Hp} {kvs : List (List Key × V)} {xs : List (List Key × Addr × Value)} (r : KT H kvs xs) (ht : ∀ b ys, H b = some (.tup ys) → H' b = some (.tup ys)) : KT H' kvs xs :=
  Paired.mapP r fun _ _ z => ⟨z.1, ht _ _ z.2.1, z.2.2⟩

section
variable {P : Program} {w : World} {H : Hp} {h : Heap} {a : Addr}
end

noncomputable def DGet (H : Hp) (a : Addr) (y : V) (r : Option V) : Prop :=
  (∃ kvs k, Rd H a (.dK kvs) ∧ y = kV k ∧ r = valV kvs k) ∨ ∃ kvs k b, Rd H a (.dT kvs) ∧ y = .ref b ∧ H b = some (.tup (k.map kV)) ∧ r = valV kvs k
noncomputable def DPut (H : Hp) (a : Addr) (y v : V) (H' : Hp) : Prop :=
  (∃ kvs k, H a = some (.dK kvs) ∧ y = kV k ∧ kvs.length < sizeLine ∧ H' = upd H a (.dK (putK kvs k v))) ∨
  ∃ kvs k b, H a = some (.dT kvs) ∧ y = .ref b ∧ H b = some (.tup (k.map kV)) ∧ kvs.length < sizeLine ∧ H' = upd H a (.dT (putK kvs k v))
theorem DGet.k {H : Hp} {a : Addr} {kvs : List (Key × V)} {k : Key} (e : H a = some (.dK kvs)) : DGet H a (kV k) (valV kvs k) := .inl ⟨kvs, k, .inl e, rfl, rfl⟩
theorem DGet.t {H : Hp} {a b : Addr} {kvs : List (List Key × V)} {k : List Key} (e : H a = some (.dT kvs)) (eb : H b = some (.tup (k.map kV))) : DGet H a (.ref b) (valV kvs k) := .inr ⟨kvs, k, b, .inl e, rfl, eb, rfl⟩
theorem DPut.k {H : Hp} {a : Addr} {kvs : List (Key × V)} {k : Key} {v : V} (e : H a = some (.dK kvs)) (hl : kvs.length < sizeLine) : DPut H a (kV k) v (upd H a (.dK (putK kvs k v))) := .inl ⟨kvs, k, e, rfl, hl, rfl⟩
theorem DPut.t {H : Hp} {a b : Addr} {kvs : List (List Key × V)} {k : List Key} {v : V} (e : H a = some (.dT kvs)) (eb : H b = some (.tup (k.map kV))) (hl : kvs.length < sizeLine) :
    DPut H a (.ref b) v (upd H a (.dT (putK kvs k v))) := .inr ⟨kvs, k, b, e, rfl, eb, hl, rfl⟩


section
variable {X : Cx} {pins : List (Addr × Obj)} {σ : St} {H : Hp} {s : Shared} {a : Addr} {y v : V} {u r : Value} {o : Option V} {A : Around} {E : Value → Shared → Prop}

theorem Inv.big (I : Inv X pins σ H s) : sysModules < s.heap.objs.size := by
  have h : mainGlobals < s.heap.objs.size := (I.mod.glob.keeps I.bk).lt
  exact Nat.lt_trans (by decide) h

end

section
variable {X : Cx} {pins : List (Addr × Obj)} {σ : St} {H : Hp} {s : Shared} {a : Addr} {kvs : List (Key × V)} {k : Key} {u : Value} {A : Around} {E : Value → Shared → Prop}
end


section
variable {X : Cx} {o i e value : Expr} {pos pos' tpos : Pos} {td ty tv : TE}
end


section
variable {X : Cx} {pos : Pos}
end

structure M1 (X : Cx) (o : Expr) (m : Str) (apos : Pos) (e : Expr) (cpos : Pos) : Prop where
  base : attributeBase o m X.env (eval o X.env) = eval o X.env
  few : ((backTo cpos (starEach [e] X.env)).all (fun x => !x.1) && (backToKw cpos (keywordEach [] X.env)).all (fun x => x.1.isSome)
    && decide (([e] : List Expr).length + ([] : List Keyword).length + (if ([] : List Keyword).isEmpty then 0 else 1) < 30)) = true
  line : (apos.endLine == cpos.line) = true
  trees : backTo cpos (starEach [e] X.env) = [(false, eval e X.env)]
structure M2 (X : Cx) (o : Expr) (m : Str) (apos : Pos) (e f : Expr) (cpos : Pos) : Prop where
  base : attributeBase o m X.env (eval o X.env) = eval o X.env
  few : ((backTo cpos (starEach [e, f] X.env)).all (fun x => !x.1) && (backToKw cpos (keywordEach [] X.env)).all (fun x => x.1.isSome)
    && decide (([e, f] : List Expr).length + ([] : List Keyword).length + (if ([] : List Keyword).isEmpty then 0 else 1) < 30)) = true
  line : (apos.endLine == cpos.line) = true
  trees : backTo cpos (starEach [e, f] X.env) = [(false, eval e X.env), (false, eval f X.env)]

section
variable {X : Cx} {pins : List (Addr × Obj)} {σ : St} {H : Hp} {s : Shared} {a : Addr} {y d : V} {u r : Value} {o : Option V} {A : Around} {E : Value → Shared → Prop}
end

section
variable {X : Cx} {o e f : Expr} {apos cpos : Pos} {td ty tx : TE}
end

section
variable {X : Cx} {pins : List (Addr × Obj)} {σ : St} {H : Hp} {s : Shared} {a : Addr} {kvs : List (Key × V)} {A : Around} {E : Value → Shared → Prop}
end


section
variable {X : Cx} {pins : List (Addr × Obj)} {σ : St} {H : Hp} {s : Shared} {a : Addr} {y : V} {u : Value} {A : Around} {E : Value → Shared → Prop}
end
end L2

namespace Att
open PySem PySem.W PySem.Calls PyProof.Rows

theorem ints_of_wellAll {P : Params} {h : Heap} : ∀ (ns : List Int) (vs : List Value), WellAll P h vs (ns.map WData.int) → IntsAre vs ns := by
  intro ns
  induction ns with
  | nil =>
    intro vs w
    rw [List.map_nil] at w
    cases w
    exact .nil
  | cons n ns ih =>
    intro vs w
    rw [List.map_cons] at w
    cases w with
    | cons a b =>
      cases a
      exact .cons _ _ (ih _ b)

theorem script_of {l : OpenLaw} {n : Nat} (hn : l.most = some n) {P : Params} {h : Heap} {args : List WData} {vals : List Value}
    (hpre : l.row.toRowW.claim.pre args = true) (hwl : WellAll P h vals args) :
    ∃ a vs ns, vals = [Value.ref a] ∧ args = [WData.list (ns.map WData.int)] ∧ h.get? a = some { cls := .type "list", data := .seq vs.toArray } ∧ IntsAre vs ns ∧ ns.length ≤ n := by
  have hsh : WShape.hasAll [] args [.list .int] = true := (pre_splitW hpre).1
  have hc : l.pre.holds [] { args := args } = true := (pre_splitW hpre).2
  obtain ⟨d, r, rfl, h1, h2⟩ := hasAllW_cons hsh
  obtain rfl := hasAllW_nil h2
  obtain ⟨xs, rfl, h3⟩ := hasW_list h1
  obtain ⟨ns, rfl⟩ := items_int h3
  have hlen : ns.length ≤ n := by
    unfold OpenLaw.pre at hc
    have h4 : (WTm.not (.lt (.lit (.int (n : Int))) (.len (.arg 0)))).holds [] { args := [.list (ns.map .int)] } = true := by
      have h4 := (holds_andW hc).1
      rw [hn] at h4
      exact h4
    have h5 := condW_of h4 (w_not (w_lt w_lit (w_len_list (w_arg rfl))))
    rw [List.length_map] at h5
    refine Nat.le_of_not_lt fun q => ?_
    have q' : (n : Int) < ((ns.length : Nat) : Int) := by omega
    first
      | (rw [decide_eq_true q'] at h5; exact absurd h5 (by decide))
      | (simp at h5; omega)
  cases hwl with
  | cons w1 w2 =>
    cases w2
    cases w1 with
    | list ho hall => exact ⟨_, _, ns, rfl, rfl, ho, ints_of_wellAll ns _ hall, hlen⟩

theorem post_true (l : OpenLaw) (args : List WData) : l.row.toRowW.claim.post args (.bool true) args = true :=
  postW_of (r := l.row.toRowW) (X := (true == true))
    (show WShape.has [] (.bool true) .bool = true by first | rfl | decide | simp [WShape.has, WShape.arms, WShape.armsAll])
    (show (WTm.eq .res (.lit (.bool true))).value [] { args := args, res := some (.bool true), after := args } = some (.bool (true == true)) from w_eq_bool (w_res rfl) w_lit) rfl

theorem attach_call {l : OpenLaw} {n : Nat} {q : Program} {loose : List Str} {XP : (Str → Option Value) → Heap → Prop} {YP : World → Heap → Prop} {d : DefRec}
    (hn : l.most = some n) (hdf : d.params.defaults = [])
    (call : ∀ (w : World) (s₀ s₁ : Shared) (mg mb : Str → Option Value) (fa : Addr) (o : Obj) (pm cd doc : Value) (a : Addr) (vs : List Value) (ns : List Int),
      Ground q loose [] XP w s₀ mg mb s₁.heap → YP w s₁.heap →
      s₁.heap.get? fa = some o → o.data = .func (docDef d.name d.params d.body d.scope pm cd doc) → s₁.heap.CodeRec cd d.name → mg d.name = some (.ref fa) →
      s₁.heap.get? a = some { cls := .type "list", data := .seq vs.toArray } → IntsAre vs ns → ns.length ≤ n → s₁.gens = #[] →
      codeAny (model l.prog w) callerA (.call (.ref fa) ⟨[.ref a], []⟩) (fun r s' => r = .ok (.ret (.bool true)) ∧ OldK s₁.heap s'.heap ∧ s'.os = s₁.os ∧ AllBare s'.gens) s₁) :
    WalkO q loose XP YP l.row.toRowW d [] (fun f vs => PySem.call f vs) := by
  intro w s₀ s₁ mg mb G Y fa o pm cd doc dV kV ho hd hcd hD hmg hg args vals as hpre hlay hrd hwl hlo
  obtain rfl : dV = .none := Dflts.none hD hdf
  obtain rfl : kV = .none := Dflts.noKw hD
  obtain ⟨a, vs, ns, rfl, rfl, hobj, hints, hlen⟩ := script_of hn hpre hwl
  refine enter_call (codeAny_mono (call w s₀ s₁ mg mb fa o pm cd doc a vs ns G Y ho (fd_plain hd) hcd hmg hobj hints hlen hg) fun r s' hq => ?_)
  obtain ⟨rfl, h2, h3, h4⟩ := hq
  exact ⟨.inl ⟨.bool true, .bool true, [], rfl, fun _ => rfl, .bool true, post_true l _, fun _ => ⟨List.Pairwise.nil, fun _ hm => (nomatch hm)⟩⟩, h2, h3, h4⟩

section
variable {prog : Program} {w : World} {A : Around} {E : Value → Shared → Prop} {s : Shared} {K : Frag}

end
end Att

namespace L2
open PySem PySem.Spec PyProof.Rows

theorem vals_ints : ∀ {vs : List Value} {ns : List Int}, IntsAre vs ns → Vals (ns.map V.int) vs
  | _, _, .nil => .nil
  | _, _, .cons n t h => .cons ⟨t, rfl⟩ (vals_ints h)

noncomputable def Only (H : Hp) : Prop := ∀ b, H b = none ∨ ∃ o xs, H b = some (.frz o (.lst xs))

theorem law_call {P : Program} {w : World} {K : PySem.W.Frag} {mg mb : Str → Option Value} {CX : CXT} {k : Nat} {fa a : Addr} {fd : FuncData} {x : Str} {sp : Sp} {s₁ : Shared} {vs : List Value} {ns : List Int}
    (KX : K.In s₁.heap) (hns : s₁.heap.Ns mainGlobals mg) (hb : s₁.heap.Ns builtinsNs mb) (hbb : ∀ x : Str, x ≠ "__name__" → mb x = bootBuiltins x) (hlim : s₁.heap.NoLimit) (hg : s₁.gens = #[])
    (ha : s₁.heap.get? a = some { cls := .type "list", data := .seq vs.toArray }) (hi : IntsAre vs ns) (hl : ns.length ≤ sizeLine) (hr : Room k callerA)
    (F : ∀ base : Heap, K.In base → base.Ns mainGlobals mg → FnOk P w K mg base CX k fa fd [x] sp) (hbind : ∀ (s : Shared) (u : Value), BindsTo s fd ⟨[u], []⟩ [(x, u)])
    (hsp : ∀ H : Hp, Only H → SqL K H a (ns.map V.int) → sp [.ref a] H (fun v _ => v = .bl true) fun _ _ _ => False)
    (hCX : ∀ H e s', CX [] H s₁ (fun _ _ _ => False) e s' → False) :
    codeAny (model P w) callerA (.call (.ref fa) ⟨[.ref a], []⟩) (fun r s' => r = .ok (.ret (.bool true)) ∧ OldK s₁.heap s'.heap ∧ s'.os = s₁.os ∧ AllBare s'.gens) s₁ := by
  have rv := vals_ints hi
  have lenV := hi.length
  -- from an abstract heap in which nothing but the script may be tracked
  have core : ∀ H : Hp, Only H → SqL K H a (ns.map V.int) → HOk P w H s₁.heap → (∀ b, H b ≠ none → b = a) → (H a ≠ none → K.lookup a = none) →
      codeAny (model P w) callerA (.call (.ref fa) ⟨[.ref a], []⟩) (fun r s' => r = .ok (.ret (.bool true)) ∧ OldK s₁.heap s'.heap ∧ s'.os = s₁.os ∧ AllBare s'.gens) s₁ := by
    intro H hO hS hok hA hK
    have base_of : ∀ {b : Addr} {o : Obj}, s₁.heap.get? b = some o → H b = none → (hidT s₁.heap H).get? b = some o := fun e n => hidT_get e n
    have noA : ∀ {b : Addr} {o : Obj} {es : Array DictEntry} {ep : Nat}, s₁.heap.get? b = some o → o.data = .dict es ep → H b = none := fun {b o es ep} e d => by
      cases q : H b with
      | none => rfl
      | some u =>
        have e' : b = a := hA b (by rw [q]; simp)
        subst e'
        rw [ha] at e; cases e
        have d' : Data.seq vs.toArray _ = Data.dict es ep := d
        cases d'
    have nsK : ∀ {b : Addr} {m : Str → Option Value}, s₁.heap.Ns b m → (hidT s₁.heap H).Ns b m := fun {b m} ⟨o, es, ep, e, d, r⟩ => ⟨o, es, ep, base_of e (noA e d), d, r⟩
    have hKb : K.In (hidT s₁.heap H) := fun b o e => base_of (KX b o e) (by
      cases q : H b with
      | none => rfl
      | some u =>
        have e' : b = a := hA b (by rw [q]; simp)
        subst e'
        rw [hK (by rw [q]; simp)] at e; cases e)
    have hM : Mod K mg (hidT s₁.heap H) := ⟨hKb, nsK hns, ⟨mb, nsK hb, hbb⟩, let ⟨mc, h1, h2⟩ := hlim; ⟨mc, nsK h1, h2⟩⟩
    have e0 : Env0 P w K mg (hidT s₁.heap H) callerA [] s₁ H := ⟨rfl, hM, fun b o e => of_hidT e, Nat.le_of_eq (hidT_size _ _), trivial, fun b hb => absurd (show b ∈ ([] : List Addr) from hb) (by simp), hok, .of_eq hg⟩
    refine codeAny_mono ((F _ hKb (nsK hns)).run callerA [] s₁ H ⟨[.ref a], []⟩ [.ref a] [.ref a] _ _ hr e0 (hbind s₁ (.ref a)) (.cons rfl .nil) (hsp H hO hS)) fun r s' h => ?_
    cases r with
    | error e => exact (hCX H e s' h).elim
    | ok fl =>
      cases fl with
      | next => exact False.elim h
      | brk => exact False.elim h
      | cont => exact False.elim h
      | ret u =>
        obtain ⟨v, H', os, bare, un, hok', r', q⟩ := h
        have q' : v = .bl true := q
        subst q'
        obtain rfl : u = Value.bool true := r'
        refine ⟨rfl, OldK.of_keep fun b o e => ?_, os, bare⟩
        cases q : H b with
        | none => exact un.keep b o e q (by intro z; exact absurd (show b ∈ ([] : List Addr) from z) (by simp)) (by simp)
        | some u =>
          rcases hO b with z | ⟨ob, xs, z⟩
          · rw [q] at z; cases z
          · have z2 := un.frzs b ob _ z
            obtain ⟨e1, _⟩ := hok b _ z
            obtain ⟨e2, _⟩ := hok' b _ z2
            rw [e] at e1; cases e1
            exact e2
  cases hk : K.lookup a with
  | some o =>
    -- the script is one of the module's own objects
    have e := KX a o hk
    rw [ha] at e
    cases e
    refine core (fun _ => none) (fun _ => .inl rfl) (.inr ⟨_, vs.toArray, _, hk, rfl, rfl, rfl, by rw [List.size_toArray, lenV]; exact hl, by simpa using rv⟩) (fun b u z => by have z' : (none : Option HO) = some u := z; cases z') (fun b z => absurd rfl z) fun z => absurd rfl z
  | none =>
    refine core (fun b => if b = a then some (.frz { cls := .type "list", data := .seq vs.toArray } (.lst (ns.map V.int))) else none) (fun b => ?_) (.inl (.inr ⟨{ cls := .type "list", data := .seq vs.toArray }, if_pos rfl⟩)) (fun b u z => ?_) (fun b z => ?_) fun _ => hk
    · by_cases hb : b = a
      · exact .inr ⟨_, _, if_pos hb⟩
      · exact .inl (if_neg hb)
    · by_cases hb : b = a
      · have z' := (if_pos hb).symm.trans z
        cases z'
        subst hb
        exact ⟨ha, by rw [List.length_map]; exact hl, vs, _, rv, ha⟩
      · have z' := (if_neg hb).symm.trans z
        cases z'
    · by_cases hb : b = a
      · exact hb
      · exact absurd (if_neg hb) z
end L2

namespace L2
open PySem PySem.Spec PyProof.Rows

theorem walk_of {l : PySem.W.OpenLaw} {n k : Nat} {q : Program} {loose : List Str} {XP : (Str → Option Value) → Heap → Prop} {YP : World → Heap → Prop} {d : DefRec} {K : Params → PySem.W.Frag} {CX : World → CXT} {sp : World → Sp} {x : Str}
    (hn : l.most = some n) (hn2 : n ≤ sizeLine) (hdf : d.params.defaults = []) (hr : Room k callerA)
    (hY : ∀ (w : World) (h : Heap), YP w h → (K w.params).In h)
    (F : ∀ (w : World) (mg : Str → Option Value) (fa : Addr) (h : Heap), (K w.params).In h → h.Ns mainGlobals mg → mg d.name = some (.ref fa) →
      ∃ fd : FuncData, (∀ (s : Shared) (u : Value), BindsTo s fd ⟨[u], []⟩ [(x, u)]) ∧
        ∀ base : Heap, (K w.params).In base → base.Ns mainGlobals mg → FnOk l.prog w (K w.params) mg base (CX w) k fa fd [x] (sp w))
    (hsp : ∀ (w : World) (H : Hp) (a : Addr) (ns : List Int), ns.length ≤ n → Only H → SqL (K w.params) H a (ns.map V.int) → sp w [.ref a] H (fun v _ => v = .bl true) fun _ _ _ => False)
    (hCX : ∀ (w : World) (H : Hp) (s : Shared) (e : Value) (s' : Shared), CX w [] H s (fun _ _ _ => False) e s' → False) :
    PySem.W.WalkO q loose XP YP l.row.toRowW d [] (fun f vs => PySem.call f vs) := by
  refine Att.attach_call hn hdf fun w s₀ s₁ mg mb fa o pm cd doc a vs ns G Y ho hd hcd hmg hobj hints hlen hg => ?_
  have KX := hY w _ Y
  obtain ⟨fd, hb, hF⟩ := F w mg fa _ KX G.T.g hmg
  exact law_call KX G.T.g G.T.b G.T.builtins G.T.nolimit hg hobj hints (Nat.le_trans hlen hn2) hr hF hb (fun H hO hS => hsp w H a ns hlen hO hS) fun H e s' => hCX w H s₁ e s'
end L2


namespace L2
open PySem PySem.Spec PyProof.Rows

noncomputable def defArgs (s : Stmt) : Arguments := match s with
  | .FunctionDef _ a _ _ _ _ _ _ _ _ => a
  | _ => { posonlyargs := [], args := [], vararg := none, kwonlyargs := [], kw_defaults := [], kwarg := none, defaults := [] }
noncomputable def defBody (s : Stmt) : List Stmt := match s with
  | .FunctionDef _ _ b _ _ _ _ _ _ _ => b
  | _ => []
noncomputable def defScope (s : Stmt) : Scope := match s with
  | .FunctionDef _ _ _ _ _ _ sc _ _ _ => sc
  | _ => { kind := .function, names := [], isGenerator := false, isCoroutine := false }

noncomputable abbrev CX0 : CXT := fun _ _ _ _ _ _ => False
noncomputable abbrev E0 : XK := fun _ _ _ => False
theorem pass0 {X : Cx} : Passes CX0 X E0 := fun _ _ _ _ _ _ _ h => h.elim

structure Fun (K : PySem.W.Frag) (x qual : Str) (st : Stmt) (f : Addr) (fd : FuncData) : Prop where
  ex : ∃ (oc : Value) (od : Option Addr) (kV doc pm : Value) (an : Option Addr) (cdv ct : Value) (osl : Array (Option Value)),
    fd = PySem.W.fnOf x qual (defArgs st) (defBody st) (defScope st) .none kV doc pm an cdv ct ∧ K.lookup f = some ⟨oc, od, .func fd, osl⟩ ∧ PySem.W.codeIn K cdv qual = true
  kp : PySem.W.keepIn K (.ref f) = true
section
variable {P : Program} {w : World} {K : PySem.W.Frag} {mg : Str → Option Value} {base : Heap}
theorem Fun.ok {x qual : Str} {st : Stmt} {f : Addr} {fd : FuncData} {N ps : List Str} {k : Nat} {sp : Sp} (F : Fun K x qual st f fd) (S : FnScope N ps (defScope st)) (len : ∀ vs H Q E, sp vs H Q E → vs.length = ps.length)
    (hbody : ∀ (cdv : Value) (A : Around) (outer : List Env) (s : Shared) (H : Hp) (vs : List V) (Q : VK) (E : XK), Room k (A.deeper (envOfC qual (defScope st) s.heap.objs.size f cdv)) → sp vs H Q E →
      ∃ t, PSs (cxOf CX0 P w K mg base N qual (defScope st) f cdv A outer s H E).nox (defBody st) t ∧ t { nx := fun _ H' => Q .non H', rt := Q } (start N vs) H) : FnOk P w K mg base CX0 (k + 1) f fd ps sp := by
  obtain ⟨oc, od, kV, doc, pm, an, cdv, ct, osl, rfl, lk, hcd⟩ := F.ex
  refine fn_of lk hcd S len fun A outer s H vs Q E hr hsp => ?_
  obtain ⟨t, h, q⟩ := hbody cdv A outer s H vs Q E hr hsp
  exact ⟨t, h.nox, q⟩
theorem Fun.binds {x qual : Str} {st : Stmt} {f : Addr} {fd : FuncData} {ps : List Str} (F : Fun K x qual st f fd)
    (h : ∀ (kV doc pm : Value) (an : Option Addr) (cdv ct : Value) (us : List Value), us.length = ps.length → bindArgs (PySem.W.fnOf x qual (defArgs st) (defBody st) (defScope st) .none kV doc pm an cdv ct) ⟨us, []⟩ = pure (ps.zip us)) : Binds K fd ps [] := by
  obtain ⟨oc, od, kV, doc, pm, an, cdv, ct, osl, rfl, lk, hcd⟩ := F.ex
  exact .all (h kV doc pm an cdv ct)
theorem fun_mk {x qual : Str} {st : Stmt} {f : Addr} {oc : Value} {od an : Option Addr} {osl : Array (Option Value)} {kV doc pm cdv ct : Value} (l : K.lookup f = some ⟨oc, od, .func (PySem.W.fnOf x qual (defArgs st) (defBody st) (defScope st) .none kV doc pm an cdv ct), osl⟩)
    (c : PySem.W.codeIn K cdv qual = true) (k : PySem.W.keepIn K (.ref f) = true) : Fun K x qual st f (PySem.W.fnOf x qual (defArgs st) (defBody st) (defScope st) .none kV doc pm an cdv ct) := ⟨⟨oc, od, kV, doc, pm, an, cdv, ct, osl, rfl, l, c⟩, k⟩
end
section
variable {X : Cx}
theorem pv (i : Nat) {x : Str} {pos : Pos} (hN : X.N[i]? = some x := by rfl) (hv : Vis X.env.scope x := by first | exact Or.inl rfl | exact Or.inr (Or.inl rfl) | exact Or.inr (Or.inr rfl)) (hd : (x == ("__debug__" : Str)) = false := by decide)
    (hcd : (x == ("__classdict__" : Str)) = false := by decide) : PE X (.Name x pos) (tVar i) := pe_var hN hv hd hcd
end

theorem iteF {A B : Prop} (h : B) : if false = true then A else B := by
  rw [if_neg Bool.false_ne_true]
  exact h
theorem iteT {A B : Prop} (h : A) : if true = true then A else B := by
  rw [if_pos rfl]
  exact h
theorem ite2 {c A B : Prop} [Decidable c] (h1 : c → A) (h2 : ¬ c → B) : if c then A else B := by
  by_cases h : c
  · rw [if_pos h]
    exact h1 h
  · rw [if_neg h]
    exact h2 h
noncomputable def Same (H H' : Hp) : Prop := ∀ b o, H b = some o → H' b = some o
theorem Same.refl (H : Hp) : Same H H := fun _ _ h => h
theorem Same.trans {H H1 H2 : Hp} (a : Same H H1) (b : Same H1 H2) : Same H H2 := fun c o h => b c o (a c o h)
theorem Same.free {H H' : Hp} (e : Same H H') {l : Addr} (h : H' l = Option.none) : H l = Option.none := by
  cases q : H l with
  | none => rfl
  | some o =>
    rw [e l o q] at h
    cases h
theorem Same.seq {K : PySem.W.Frag} {H H' : Hp} {a : Addr} {xs : List V} (e : Same H H') (h : SqL K H a xs) : SqL K H' a xs := by
  rcases h with (h | ⟨o, h⟩) | h
  · exact .inl (.inl (e _ _ h))
  · exact .inl (.inr ⟨o, e _ _ h⟩)
  · exact .inr h

end L2

namespace L2
open PySem PySem.Spec PyProof.Rows
section
variable {X : Cx}
end
section
variable {κ : Type} [DecidableEq κ]
end
end L2
set_option maxHeartbeats 4000000
namespace L2
open PySem PySem.Spec PyProof.Rows

theorem comp_loop_any {prog : Program} {w : World} {A : Around} {R : Result → Shared → Prop} {s : Shared}
    {elt tg iter : Expr} {ifs : List Expr} {scope : Scope} {pos : Pos} {it acc : Value} {env : Env}
    (I : Nat → Shared → Prop)
    (turn : ∀ n s, I n s → wpAny (model prog w) A (pyNext it)
      (fun r s1 => match r with
        | none => R (.ok .next) s1
        | some v => wpAny (model prog w) A (letOwnedTupleGo tg it v) (fun _ s2 =>
            wpAny (model prog w) A (assign tg env v) (fun _ s3 =>
            wpAny (model prog w) A
              (forIn ifs true fun c r => if r = true then do
                  let ok ← isTrue c env (eval c env)
                  pure (ForInStep.yield ok)
                else pure (ForInStep.yield r))
              (fun ok s4 => if ok = true then
                  wpAny (model prog w) A (eval elt env) (fun x s5 =>
                    wpAny (model prog w) A (call (.builtin "list.append") [acc, x])
                      (fun _ s6 => ∃ m, m < n ∧ I m s6) (fun _ _ => False) s5) (fun _ _ => False) s4
                else ∃ m, m < n ∧ I m s4) (fun _ _ => False) s3) (fun _ _ => False) s2)
            (fun _ _ => False) s1)
      (fun _ _ => False) s)
    (n : Nat) (h : I n s) :
    codeAny (model prog w) A (.compLoop (.ListComp elt [⟨tg, iter, ifs, 0⟩] scope pos) 0 it acc env) R s := by
  refine codeAny_loop rfl I (fun n s hI => ?_) n h
  show wpAny _ A ((compTurn _ 0 it acc env).onRaise (fun x => do noteFrame x env; theTreesLotGoes x)) _ _ s
  refine wpAny_noted (E := fun e s' => R (.error e) s') ?_
  rw [compTurn_list]
  refine wpAny_bind (wpAny_standAt (wpAny_bind (wpAny_mono (turn n s hI) (fun r s1 h1 => ?_) fun _ _ z => z.elim)))
  cases r with
  | none => exact wpAny_pure h1
  | some v =>
    refine wpAny_bind (wpAny_mono h1 (fun _ s2 h2 => wpAny_bind (wpAny_mono h2 (fun _ s3 h3 =>
      wpAny_bind (wpAny_mono h3 (fun ok s4 h4 => ?_) fun _ _ z => z.elim)) fun _ _ z => z.elim)) fun _ _ z => z.elim)
    cases ok with
    | false => exact wpAny_pure ⟨rfl, h4⟩
    | true =>
      exact wpAny_bind (wpAny_bind (wpAny_mono h4 (fun x s5 h5 => wpAny_bind (wpAny_mono h5
        (fun _ s6 h6 => wpAny_pure (wpAny_pure ⟨rfl, h6⟩)) fun _ _ z => z.elim)) fun _ _ z => z.elim))

theorem closure_ok {scope : Scope} {env : Env} (h : ∀ y ∈ scope.names, y.2 = .free → ∃ c, env.cells.lookup y.1 = some c) :
    ∃ cl, closureFor scope env = pure cl ∧ (∀ x c, cl.lookup x = some c → env.cells.lookup x = some c) ∧
      ∀ y ∈ scope.names, y.2 = .free → ∃ c, cl.lookup y.1 = some c := by
  have all : ∀ (ns : List (Str × NameKind)), (∀ y ∈ ns, y.2 = .free → ∃ c, env.cells.lookup y.1 = some c) → ∀ cl0 : List (Str × Addr),
      (∀ x c, cl0.lookup x = some c → env.cells.lookup x = some c) →
      ∃ cl, (forIn ns cl0 fun (x : Str × NameKind) (r : List (Str × Addr)) =>
          (if (x.2 == NameKind.free) = true then do
            let a ← cellOf env x.1
            pure (ForInStep.yield ((x.1, a) :: r))
          else pure (ForInStep.yield r) : Sem _)) = pure cl ∧ (∀ x c, cl.lookup x = some c → env.cells.lookup x = some c) ∧
        (∀ x c, cl0.lookup x = some c → ∃ c, cl.lookup x = some c) ∧ ∀ y ∈ ns, y.2 = .free → ∃ c, cl.lookup y.1 = some c := by
    intro ns
    induction ns with
    | nil => exact fun _ cl0 h0 => ⟨cl0, rfl, h0, fun x c e => ⟨c, e⟩, fun y hy => nomatch hy⟩
    | cons y r ih =>
      intro hy cl0 h0
      by_cases hk : y.2 = .free
      · obtain ⟨c, hc⟩ := hy y (.head _) hk
        have h1 : ∀ x d, ((y.1, c) :: cl0).lookup x = some d → env.cells.lookup x = some d := fun x d e => by
          rw [List.lookup_cons] at e
          cases q : x == y.1 with
          | true =>
            rw [q] at e
            have : x = y.1 := eq_of_beq q
            subst this
            exact (Option.some.inj e) ▸ hc
          | false =>
            rw [q] at e
            exact h0 x d e
        obtain ⟨cl, e, a, b, d⟩ := ih (fun z hz => hy z (.tail _ hz)) ((y.1, c) :: cl0) h1
        have keep : ∀ x d, cl0.lookup x = some d → ∃ d, cl.lookup x = some d := fun x d e => by
          cases q : x == y.1 with
          | true => exact b x c (by rw [List.lookup_cons, q])
          | false => exact b x d (by rw [List.lookup_cons, q]; exact e)
        refine ⟨cl, ?_, a, keep, fun z hz hf => ?_⟩
        · rw [List.forIn_cons]
          have : (y.2 == NameKind.free) = true := by rw [hk]; rfl
          rw [if_pos this]
          have ec : cellOf env y.1 = pure c := by unfold cellOf; rw [hc]
          rw [ec]
          exact e
        · rcases List.mem_cons.mp hz with rfl | hz
          · exact b z.1 c (by rw [List.lookup_cons, beq_self_eq_true])
          · exact d z hz hf
      · obtain ⟨cl, e, a, b, d⟩ := ih (fun z hz => hy z (.tail _ hz)) cl0 h0
        refine ⟨cl, ?_, a, b, fun z hz hf => ?_⟩
        · rw [List.forIn_cons]
          have : ¬ (y.2 == NameKind.free) = true := by simpa using hk
          rw [if_neg this]
          exact e
        · rcases List.mem_cons.mp hz with rfl | hz
          · exact absurd hf hk
          · exact d z hz hf
  obtain ⟨cl, e, a, _, d⟩ := all scope.names h [] (fun x c e => by simp at e)
  exact ⟨cl, congrArg (fun (m : Sem (List (Str × Addr))) => m >>= fun cs => pure cs) e, a, d⟩

theorem relabel_kind {scope : Scope} {env : Env} {x : Str} (hc : ∀ y ∈ scope.names, y.2 ≠ .cell)
    (h : (relabel scope env).names.lookup x = some .cell ∨ (relabel scope env).names.lookup x = some .free) : ∃ y ∈ scope.names, y.1 = x ∧ y.2 = .free := by
  have all : ∀ ns : List (Str × NameKind), (∀ y ∈ ns, y.2 ≠ .cell) → ∀ k, (k = NameKind.cell ∨ k = NameKind.free) →
      (ns.map fun (n, k) => if (k == .free && env.scope.kind == .function && env.kindOf n == some .cell) then (n, .cell) else (n, k)).lookup x = some k → ∃ y ∈ ns, y.1 = x ∧ y.2 = .free := by
    intro ns
    induction ns with
    | nil => intro _ k _ e; simp at e
    | cons y r ih =>
      intro hn k hk e
      obtain ⟨n, j⟩ := y
      rw [List.map_cons, List.lookup_cons] at e
      have step : (∃ z ∈ r, z.1 = x ∧ z.2 = .free) → ∃ z ∈ (n, j) :: r, z.1 = x ∧ z.2 = .free := fun ⟨z, hz, q⟩ => ⟨z, .tail _ hz, q⟩
      by_cases hcc : (j == NameKind.free && env.scope.kind == .function && env.kindOf n == some .cell) = true
      · have hj : j = .free := by
          simp only [Bool.and_eq_true, beq_iff_eq] at hcc
          exact hcc.1.1
        simp only [hcc, if_true] at e
        cases q : x == n with
        | true => exact ⟨(n, j), .head _, (eq_of_beq q).symm, hj⟩
        | false =>
          rw [q] at e
          exact step (ih (fun z hz => hn z (.tail _ hz)) k hk e)
      · simp only [hcc, if_false, Bool.false_eq_true] at e
        cases q : x == n with
        | true =>
          rw [q] at e
          have ej : j = k := Option.some.inj e
          refine ⟨(n, j), .head _, (eq_of_beq q).symm, ?_⟩
          rcases hk with hk | hk
          · exact absurd (ej.trans hk) (hn (n, j) (.head _))
          · exact ej.trans hk
        | false =>
          rw [q] at e
          exact step (ih (fun z hz => hn z (.tail _ hz)) k hk e)
  rcases h with h | h
  · exact all scope.names hc _ (.inl rfl) h
  · exact all scope.names hc _ (.inr rfl) h

noncomputable def cxComp (X : Cx) (N : List Str) (scope : Scope) (cl : List (Str × Addr)) (fp : List Addr) (s : Shared) (H : Hp) : Cx where
  prog := X.prog
  w := X.w
  K := X.K
  mg := X.mg
  base := X.base
  A := X.A
  N := N
  s₀ := s
  H₀ := H
  env := compEnvC scope cl s.heap.objs.size X.env
  outer := X.stack
  stack := X.stack
  ex := fp
  fn := fun _ => false
  calm := X.calm
  pn := []
  xe := fun _ _ => False

noncomputable def blockSt (n : Nat) (cap : List Nat) (σ : St) : St := List.replicate n none ++ cap.map fun j => (σ[j]?).join

noncomputable def PTs (X : Cx) (ifs : List Expr) (t : TT) : Prop :=
  ∀ (pins : List (Addr × Obj)) (s : Shared) (σ : St) (H : Hp) (Q : Bool → Hp → Prop), Inv X pins σ H s → t σ H Q →
    wpAny (model X.prog X.w) X.A (forIn ifs true fun c r => if r = true then do
        let ok ← isTrue c X.env (eval c X.env)
        pure (ForInStep.yield ok)
      else pure (ForInStep.yield r)) (TP X pins σ Q) X.xe s
noncomputable def tYes : TT := fun _ H Q => Q true H
theorem pts_nil {X : Cx} : PTs X [] tYes := fun _ _ _ H _ I h => wpAny_tests_nil ⟨H, I, h⟩
theorem pts_one {X : Cx} {c : Expr} {t : TT} (h : PT X c t) : PTs X [c] t := fun pins s σ H Q I hw => wpAny_tests_one (h pins s σ H Q I hw)

noncomputable def compRun (J : It) (D : Addr) (n : Nat) (cap : List Nat) (σ : St) (g : TG) (tt : TT) (te : TE) (Q : VK) (H1 : Hp) : Prop :=
  ∃ W : Nat → Nat → Hp → Prop, (∃ m, W 0 m (upd H1 D (.lst []))) ∧ ∀ i m H, W i m H →
    (J.stop i H ∧ Q (.ref D) H) ∨ (J.go i H ∧ ∃ N : Hp → Prop, (∀ H', N H' → ∃ m', m' < m ∧ W (i + 1) m' H') ∧ ∀ x H', J.yld i H x H' → g x (blockSt n cap σ) H' fun σ2 H2 =>
      tt σ2 H2 fun b H3 => if b = true then te σ2 H3 fun y H4 => ∃ xs, H4 D = some (.lst xs) ∧ xs.length < sizeLine ∧ N (upd H4 D (.lst (xs ++ [y])))
        else N H3)
noncomputable def tComp (n : Nat) (cap : List Nat) (wi : TI) (g : TG) (tt : TT) (te : TE) : TE := fun σ H Q => wi σ H fun J H1 => ∀ D, H1 D = none → compRun J D n cap σ g tt te Q H1

section
variable {X : Cx} {elt tg iter : Expr} {ifs : List Expr} {scope : Scope} {pos : Pos} {N : List Str} {n : Nat} {cap : List Nat} {wi : TI} {g : TG} {tt : TT} {te : TE}

structure Blk (X : Cx) (scope : Scope) (N : List Str) (n : Nat) (cap : List Nat) : Prop where
  kind : scope.kind = .function
  cell : ∀ y ∈ scope.names, y.2 ≠ .cell
  names : ∀ y ∈ scope.names, y.2 = .local → scope.names.lookup y.1 = some .local
  free : ∀ y ∈ scope.names, y.2 = .free → X.env.kindOf y.1 = some .cell ∨ X.env.kindOf y.1 = some .free
  len : N.length = n + cap.length
  caps : ∀ (i j : Nat) (x : Str), cap[i]? = some j → N[n + i]? = some x → X.N[j]? = some x ∧ (scope.names.lookup x = some .free)
end

noncomputable def blkOk (names : List (Str × NameKind)) (N : List Str) (n : Nat) (cap : List Nat) (No : List Str) (so : List (Str × NameKind)) : Bool :=
  names.all (fun y => y.2 != .cell) && names.all (fun y => y.2 != .local || names.lookup y.1 == some .local) &&
  names.all (fun y => y.2 != .free || (so.lookup y.1 == some .cell || so.lookup y.1 == some .free)) && (N.length == n + cap.length) &&
  (List.range cap.length).all fun i => match cap[i]?, N[n + i]? with
    | some j, some x => No[j]? == some x && names.lookup x == some .free
    | _, _ => true
theorem blk_of {X : Cx} {scope : Scope} {N : List Str} {n : Nat} {cap : List Nat} (hk : scope.kind = .function) (h : blkOk scope.names N n cap X.N X.env.scope.names = true) : Blk X scope N n cap := by
  unfold blkOk at h
  simp only [Bool.and_eq_true, List.all_eq_true] at h
  obtain ⟨⟨⟨⟨h1, h2⟩, h3⟩, h4⟩, h5⟩ := h
  refine ⟨hk, fun y hy z => ?_, fun y hy z => ?_, fun y hy z => ?_, by simpa using h4, fun i j x e1 e2 => ?_⟩
  · have := h1 y hy
    rw [z] at this
    cases this
  · have := h2 y hy
    rw [z] at this
    simpa using this
  · have := h3 y hy
    rw [z] at this
    show X.env.scope.names.lookup y.1 = some .cell ∨ X.env.scope.names.lookup y.1 = some .free
    simpa using this
  · have hi : i < cap.length := (List.getElem?_eq_some_iff.mp e1).1
    have := h5 i (List.mem_range.mpr hi)
    rw [e1, e2] at this
    simpa using this

theorem blk_get {n : Nat} {cap : List Nat} {σ : St} {i : Nat} {v : V} (h : (blockSt n cap σ)[i]? = some (some v)) :
    ∃ k j, i = n + k ∧ cap[k]? = some j ∧ σ[j]? = some (some v) := by
  unfold blockSt at h
  by_cases hi : i < n
  · rw [List.getElem?_append_left (by simpa using hi), List.getElem?_replicate, if_pos hi] at h
    cases h
  · rw [List.getElem?_append_right (by simpa using Nat.not_lt.mp hi)] at h
    simp only [List.length_replicate, List.getElem?_map] at h
    cases e : cap[i - n]? with
    | none => rw [e] at h; cases h
    | some j =>
      rw [e] at h
      have h' : (σ[j]?).join = some v := Option.some.inj h
      refine ⟨i - n, j, by omega, e, ?_⟩
      cases q : σ[j]? with
      | none => rw [q] at h'; cases h'
      | some o =>
        rw [q] at h'
        exact congrArg some h'

theorem relabel_free {scope : Scope} {env : Env} {x : Str} (h : scope.names.lookup x = some .free) :
    (relabel scope env).names.lookup x = some .cell ∨ (relabel scope env).names.lookup x = some .free := by
  have all : ∀ ns : List (Str × NameKind), ns.lookup x = some .free →
      (ns.map fun (n, k) => if (k == .free && env.scope.kind == .function && env.kindOf n == some .cell) then (n, NameKind.cell) else (n, k)).lookup x = some .cell ∨
      (ns.map fun (n, k) => if (k == .free && env.scope.kind == .function && env.kindOf n == some .cell) then (n, NameKind.cell) else (n, k)).lookup x = some .free := by
    intro ns
    induction ns with
    | nil => intro e; simp at e
    | cons y r ih =>
      intro e
      obtain ⟨m, j⟩ := y
      rw [List.lookup_cons] at e
      rw [List.map_cons, List.lookup_cons]
      cases q : x == m with
      | true =>
        rw [q] at e
        have ej : j = .free := Option.some.inj e
        subst ej
        by_cases hcc : (NameKind.free == NameKind.free && env.scope.kind == .function && env.kindOf m == some .cell) = true
        · simp only [hcc, if_true, q, true_or]
        · simp only [hcc, if_false, Bool.false_eq_true, q, or_true]
      | false =>
        rw [q] at e
        have h1 := ih e
        by_cases hcc : (j == NameKind.free && env.scope.kind == .function && env.kindOf m == some .cell) = true
        · simp only [hcc, if_true, q]
          exact h1
        · simp only [hcc, if_false, Bool.false_eq_true, q]
          exact h1
  exact all scope.names h

theorem comp_ok {X : Cx} {pins : List (Addr × Obj)} {σ : St} {H : Hp} {s : Shared} {N : List Str} {scope : Scope} {n : Nat} {cap : List Nat} {cl : List (Str × Addr)} {fp : List Addr}
    (I : Inv X pins σ H s) (B : Blk X scope N n cap) (c1 : ∀ x c, cl.lookup x = some c → X.env.cells.lookup x = some c)
    (c2 : ∀ y ∈ scope.names, y.2 = .free → ∃ c, cl.lookup y.1 = some c) (hf : ∀ b ∈ fp, FpOk X pins H b) (hfl : ∀ b ∈ fp, b < s.heap.objs.size) : (cxComp X N scope cl fp s H).Ok where
  mod := I.ok.mod
  kind := by show (relabel scope X.env).kind = _; exact B.kind
  glob := I.ok.glob
  blt := I.ok.blt
  above := Nat.le_refl _
  inj := fun x y c e1 e2 => I.ok.inj x y c (c1 x c e1) (c1 y c e2)
  has := fun x h => by
    obtain ⟨y, hy, e, k⟩ := relabel_kind B.cell h
    obtain ⟨c, hc⟩ := c2 y hy k
    exact ⟨c, e ▸ hc⟩
  cab := fun x c h => nomatch h
  hd := I.ok.hd
  frames := I.ok.frames
  stk := .inl rfl
  exf := fun b hb => ⟨Nat.ne_of_lt (hfl b hb), fun x c e => (hf b hb).2.2.2.2.1 x c (c1 x c e)⟩
  bs := I.bs
  bsz := Nat.le_trans I.ok.bsz I.sz
  noex := fun b o e hb => by
    rcases (hf b hb).2.2.2.1 with z | z
    · exact I.ok.noex b o e z
    · exact absurd (Nat.lt_of_lt_of_le (Heap.lt_size e) (Nat.le_trans I.ok.bsz z)) (Nat.lt_irrefl _)
  exfs := fun b hb z => by
    rcases List.mem_cons.mp (I.stkSub b z) with e | e
    · exact (hf b hb).2.1 e
    · exact (hf b hb).2.2.1 e
  funs := I.stack
  frf := I.stkFree

theorem comp_start {X : Cx} {pins : List (Addr × Obj)} {σ : St} {H : Hp} {s : Shared} {h1 : Heap} {t1 : Nat} {N : List Str} {scope : Scope} {n : Nat} {cap : List Nat} {cl : List (Str × Addr)} {fp : List Addr} {m : Str → Option Value}
    (I : Inv X pins σ H s) (B : Blk X scope N n cap) (c1 : ∀ x c, cl.lookup x = some c → X.env.cells.lookup x = some c)
    (c2 : ∀ y ∈ scope.names, y.2 = .free → ∃ c, cl.lookup y.1 = some c) (hf : ∀ b ∈ fp, FpOk X pins H b) (hfl : ∀ b ∈ fp, b < s.heap.objs.size)
    (hn : h1.Ns s.heap.objs.size m) (k : ∀ b o, s.heap.get? b = some o → h1.get? b = some o) :
    Inv (cxComp X N scope cl fp s H) [] (blockSt n cap σ) H { s with heap := h1, toks := t1 } where
  ok := comp_ok I B c1 c2 hf hfl
  os := rfl
  bare := I.bare
  base := Un.kept k
  loc := by
    refine ⟨m, hn, fun i x v e1 e2 e3 => ?_⟩
    obtain ⟨k', j, rfl, ec, es⟩ := blk_get e2
    obtain ⟨ex, ef⟩ := B.caps k' j x ec e1
    have hy : ∃ y ∈ scope.names, y.1 = x ∧ y.2 = .free := relabel_kind (env := X.env) B.cell (relabel_free ef)
    obtain ⟨y, hy, ey, ky⟩ := hy
    have kx : X.env.kindOf x = some .cell ∨ X.env.kindOf x = some .free := ey ▸ B.free y hy ky
    obtain ⟨m0, _, hl⟩ := I.loc
    have vis : Vis X.env.scope x := .inr kx
    obtain ⟨u, r, l⟩ := hl j x v ex es vis
    refine ⟨u, r, .inr ⟨relabel_free ef, ?_⟩⟩
    rcases l with ⟨kl, _⟩ | ⟨_, c, hc, ho⟩
    · rcases kx with q | q <;> (rw [kl] at q; cases q)
    · obtain ⟨c', hc'⟩ := c2 y hy ky
      rw [ey] at hc'
      have := c1 x c' hc'
      rw [hc] at this
      cases this
      obtain ⟨o, eo, d⟩ := ho
      exact ⟨c, hc', o, k c o eo, d⟩
  cell := fun x c e => by
    obtain ⟨v, o, eo, d⟩ := I.cell x c (c1 x c e)
    exact ⟨v, o, k c o eo, d⟩
  free := I.hok.fresh (Nat.le_refl _)
  freeC := fun x c e => I.freeC x c (c1 x c e)
  pin := fun p hp => nomatch hp
  hok := I.hok.kept k
  len := by show (blockSt n cap σ).length = N.length; rw [B.len]; unfold blockSt; simp

theorem comp_end {X : Cx} {pins : List (Addr × Obj)} {σ σ' : St} {H H' : Hp} {s s' : Shared} {N : List Str} {scope : Scope} {cl : List (Str × Addr)} {fp : List Addr} {pl : List (Addr × Obj)}
    (I : Inv X pins σ H s) (I' : Inv (cxComp X N scope cl fp s H) pl σ' H' s') (hf : ∀ b ∈ fp, FpOk X pins H b) :
    Inv X pins σ H' s' ∧ FpOk X pins H' s.heap.objs.size ∧ ∃ m, s'.heap.Ns s.heap.objs.size m := by
  obtain ⟨m, hn, _⟩ := I'.loc
  have u : Un (frs X.stack) fp H H' s.heap s'.heap := I'.base
  have J : Inv X pins σ H' s' := I.call' (ch := fp) I'.os u I'.hok I'.bare fun b hb => by
    obtain ⟨_, a1, _, a3, a4, a5⟩ := hf b hb
    exact ⟨a3, a1, a4, a5⟩
  exact ⟨J, I.fpOk (Nat.le_refl _) I'.free, m, hn⟩

noncomputable def KeepG (n : Nat) (g : TG) : Prop := ∀ x σ H Q, g x σ H Q → g x σ H fun σ2 H2 => Q σ2 H2 ∧ σ2.length = σ.length ∧ ∀ z, n ≤ z → σ2[z]? = σ[z]?
theorem keep_name {n i : Nat} (h : i < n) : KeepG n (gName i) := fun x σ H Q q => ⟨q, by simp, fun z hz => by rw [List.getElem?_set_ne (by omega)]⟩
theorem comp_core {X : Cx} {elt tg iter : Expr} {ifs : List Expr} {scope : Scope} {pos : Pos} {N : List Str} {n : Nat} {cap : List Nat} {g : TG} {tt : TT} {te : TE}
    {cl : List (Str × Addr)} {RR : Value → Addr → Result → Shared → Prop} {E : Value → Shared → Prop}
    (hc : X.calm = true) (B : Blk X scope N n cap) (c1 : ∀ x c, cl.lookup x = some c → X.env.cells.lookup x = some c) (c2 : ∀ y ∈ scope.names, y.2 = .free → ∃ c, cl.lookup y.1 = some c)
    (hk : KeepG n g) (hg : ∀ cl fp s H, PG (cxComp X N scope cl fp s H) tg g) (ht : ∀ cl fp s H, PTs (cxComp X N scope cl fp s H) ifs tt) (he : ∀ cl fp s H, PE (cxComp X N scope cl fp s H) elt te)
    {pins : List (Addr × Obj)} {σ : St} {Q : VK} {itv : Value} {s2 : Shared}
    (h : PIE X pins σ tg (fun J H1 => ∀ D, H1 D = none → compRun J D n cap σ g tt te Q H1) itv s2)
    (hRR : ∀ (D C : Addr) (H' : Hp) (s' : Shared) (m : Str → Option Value), Inv X pins σ H' s' → FpOk X pins H' C → s'.heap.Ns C m → Q (.ref D) H' → RR (.ref D) C (.ok .next) s') :
    wpAny (model X.prog X.w) X.A (newList []) (fun acc s3 =>
      wpAny (model X.prog X.w) X.A (newFunctionEnv scope X.env.globals cl [] X.env.qual none .none (some X.env)) (fun cenv s4 =>
        codeAny (model X.prog X.w) X.A (.compStart (.ListComp elt [⟨tg, iter, ifs, 0⟩] scope pos) 0 itv acc { cenv with scope := relabel scope X.env })
          (RR acc cenv.locals) s4) E s3) E s2 := by
  obtain ⟨it, fp, tn, J, H2, e, I2, T, st2, f2, q2⟩ := h
  subst e
  refine wpAny_newObj_type ?_ (by show 0 ≤ sizeLine; decide)
  have hD : H2 s2.heap.objs.size = none := I2.hok.fresh (Nat.le_refl _)
  obtain ⟨W, ⟨m0, w0⟩, turn⟩ := q2 _ hD
  have I3 : Inv X pins σ (upd H2 s2.heap.objs.size (.lst [])) { s2 with heap := s2.heap.push { cls := .type "list", data := .seq ([] : List Value).toArray }, toks := s2.toks } :=
    I2.lnew .nil (by show 0 ≤ sizeLine; decide)
  have st3 : tn 0 (s2.heap.push { cls := .type "list", data := .seq ([] : List Value).toArray }) := T.keep _ _ _ st2 fun b _ o e => Heap.get?_push_of_some _ e
  have obj2 := T.obj _ _ st2
  have fD : ∀ b ∈ fp, b ≠ s2.heap.objs.size := fun b hb => by
    obtain ⟨o, eo, _⟩ := obj2 b hb
    exact Nat.ne_of_lt (Heap.lt_size eo)
  have f3 : ∀ b ∈ fp, FpOk X pins (upd H2 s2.heap.objs.size (.lst [])) b := fun b hb => ⟨by rw [upd_ne (fD b hb)]; exact (f2 b hb).1, (f2 b hb).2⟩
  have go3 : ∀ (s3 : Shared) (H3 : Hp), Inv X pins σ H3 s3 → tn 0 s3.heap → (∀ b ∈ fp, FpOk X pins H3 b) → W 0 m0 H3 →
      wpAny (model X.prog X.w) X.A (newFunctionEnv scope X.env.globals cl [] X.env.qual none .none (some X.env)) (fun cenv s4 =>
        codeAny (model X.prog X.w) X.A (.compStart (.ListComp elt [⟨tg, iter, ifs, 0⟩] scope pos) 0 (.ref it) (.ref s2.heap.objs.size) { cenv with scope := relabel scope X.env })
          (RR (.ref s2.heap.objs.size) cenv.locals) s4) E s3 := by
    intro s3 H3 I3 st3 f3 w0
    refine wpAny_newFunctionEnv B.cell (fun y hy => nomatch hy) (fun h4 n4 sb4 => ?_) B.kind
    have k4 : ∀ b o, s3.heap.get? b = some o → h4.get? b = some o := fun b o e => sb4.extBut b o (Nat.ne_of_lt (Heap.lt_size e)) (Heap.get?_push_of_some _ e)
    have fl3 : ∀ b ∈ fp, b < s3.heap.objs.size := fun b hb => by
      obtain ⟨o, eo, _⟩ := T.obj _ _ st3 b hb
      exact Heap.lt_size eo
    have I4 : Inv (cxComp X N scope cl fp s3 H3) [] (blockSt n cap σ) H3 { s3 with heap := h4, toks := s3.toks + ([] : List (Str × Value)).length } :=
      comp_start I3 B c1 c2 f3 fl3 n4 k4
    have st4 : tn 0 h4 := T.keep _ _ _ st3 fun b _ o e => k4 b o e
    have stat : ∀ {H' : Hp}, (∀ b ∈ fp, H' b = none) → ∀ b ∈ fp, FpOk (cxComp X N scope cl fp s3 H3) [] H' b := fun hn b hb => by
      obtain ⟨_, a1, a2, _, a4, _⟩ := f3 b hb
      refine ⟨hn b hb, Nat.ne_of_lt (fl3 b hb), fun z => ?_, .inl hb, fun x c e => a4 x c (c1 x c e), fun p hp => nomatch hp⟩
      rcases List.mem_cons.mp (I3.stkSub b z) with e | e
      · exact a1 e
      · exact a2 e
    have loop : ∀ s5 : Shared, s5 = { s3 with heap := h4, toks := s3.toks + ([] : List (Str × Value)).length } →
        codeAny (model X.prog X.w) X.A (.compLoop (.ListComp elt [⟨tg, iter, ifs, 0⟩] scope pos) 0 (.ref it) (.ref s2.heap.objs.size) (compEnvC scope cl s3.heap.objs.size X.env))
          (RR (.ref s2.heap.objs.size) s3.heap.objs.size) s5 := by
      rintro s5 rfl
      refine comp_loop_any (fun k s' => ∃ i H', Inv (cxComp X N scope cl fp s3 H3) [] (blockSt n cap σ) H' s' ∧ tn i s'.heap ∧ (∀ b ∈ fp, H' b = none) ∧ W i k H') ?_ m0
        ⟨0, H3, I4, st4, fun b hb => (f3 b hb).1, w0⟩
      rintro k s6 ⟨i, H6, I6, st6, fr6, w6⟩
      rcases turn i k H6 w6 with ⟨stop, qn⟩ | ⟨go, N6, hN6, step⟩
      · refine thn (T.done (cxComp X N scope cl fp s3 H3) rfl rfl rfl hc i [] s6 _ H6 _ I6 (stat fr6) st6 stop) fun r s7 ⟨hr, I7⟩ => ?_
        subst hr
        obtain ⟨J7, C7, m7, n7⟩ := comp_end I3 I7 f3
        exact hRR _ _ H6 s7 m7 J7 C7 n7 qn
      · refine thn (T.item (cxComp X N scope cl fp s3 H3) rfl rfl rfl hc i [] s6 _ H6 _ I6 (stat fr6) st6 go) fun r s7 ⟨u, hr, h7⟩ => ?_
        subst hr
        refine thn h7 fun _ s8 ⟨x, H8, I8, r8, y8, st8, fr8⟩ => ?_
        have I8' := I8.pinned (stat fr8) (T.obj _ _ st8)
        refine thn (hg cl fp s3 H3 _ s8 _ H8 x u _ I8' r8 (hk _ _ _ _ (step x H8 y8))) fun _ s9 ⟨σ9, H9, I9, q9, l9, k9⟩ => ?_
        refine thn (ht cl fp s3 H3 _ s9 σ9 H9 _ I9 q9) fun b s10 ⟨H10, I10, q10⟩ => ?_
        have wk : ∀ (z : Nat) v, (blockSt n cap σ)[z]? = some (some v) → σ9[z]? = some (some v) := fun z v e => by
          obtain ⟨kk, j, rfl, _, _⟩ := blk_get e
          rw [k9 _ (Nat.le_add_right _ _)]
          exact e
        have back : ∀ {Ha : Hp} {sa : Shared} {j : Nat}, Inv (cxComp X N scope cl fp s3 H3) ([] ++ pinsAt fp s8.heap) σ9 Ha sa → W (i + 1) j Ha →
            ∃ i H', Inv (cxComp X N scope cl fp s3 H3) [] (blockSt n cap σ) H' sa ∧ tn i sa.heap ∧ (∀ b ∈ fp, H' b = none) ∧ W i j H' := fun {Ha sa j} Ia wa => by
          refine ⟨i + 1, Ha, (Ia.unpinned).weak l9.symm wk, T.keep _ _ _ st8 fun b hb o e => (Ia.pin (b, o) (List.mem_append_right _ (List.mem_append_right _ (mem_pinsAt hb e)))).1, fun b hb => ?_, wa⟩
          obtain ⟨o, e, d⟩ := T.obj _ _ st8 b hb
          exact (Ia.pin (b, o) (List.mem_append_right _ (List.mem_append_right _ (mem_pinsAt hb e)))).2.1
        cases b with
        | false =>
          rw [if_neg Bool.false_ne_true] at q10 ⊢
          obtain ⟨m', hm, w'⟩ := hN6 _ q10
          exact ⟨m', hm, back I10 w'⟩
        | true =>
          rw [if_pos rfl] at q10 ⊢
          refine thn (he cl fp s3 H3 _ s10 σ9 H10 _ I10 q10) fun y s11 ⟨yv, H11, I11, r11, q11⟩ => ?_
          obtain ⟨xs, eD, hl, q11⟩ := q11
          obtain ⟨m', hm, w'⟩ := hN6 _ q11
          refine thn (mt_append _ s11 σ9 H11 (.ref s2.heap.objs.size) [yv] (.ref s2.heap.objs.size) [y] (fun _ Hz => Hz = upd H11 s2.heap.objs.size (.lst (xs ++ [yv]))) I11 rfl (.cons r11 .nil)
            ⟨_, xs, yv, rfl, rfl, eD, hl, rfl⟩) fun _ s12 ⟨_, H12, I12, _, e12⟩ => ?_
          subst e12
          exact ⟨m', hm, back I12 w'⟩
    exact codeAny_compStart_list (loop _ rfl) (T.self _ _ _ _ _ st4 (loop _ rfl))
  exact go3 _ _ I3 st3 f3 w0

section
variable {X : Cx} {elt tg iter : Expr} {ifs : List Expr} {scope : Scope} {pos : Pos} {N : List Str} {n : Nat} {cap : List Nat} {wi : TI} {g : TG} {tt : TT} {te : TE}
theorem pe_comp (hc : X.calm = true) (B : Blk X scope N n cap) (hi : PI X tg iter wi) (hk : KeepG n g)
    (hg : ∀ cl fp s H, PG (cxComp X N scope cl fp s H) tg g) (ht : ∀ cl fp s H, PTs (cxComp X N scope cl fp s H) ifs tt) (he : ∀ cl fp s H, PE (cxComp X N scope cl fp s H) elt te)
    (hs : ∀ x, foldedSetIterable iter X.env x = pure x := by intro _; rfl) : PE X (.ListComp elt [⟨tg, iter, ifs, 0⟩] scope pos) (tComp n cap wi g tt te) := by
  intro pins s σ H Q I h
  obtain ⟨cl, ecl, c1, c2⟩ := closure_ok (scope := scope) (env := X.env) fun y hy k => I.ok.has y.1 (B.free y hy k)
  rw [eval_ListComp]
  refine wpAny_comprehension_free (use := none) rfl hs ecl B.kind B.names ?_
  refine thn (hi pins s σ H _ I h) fun v s1 h1 => thn h1 fun itv s2 h2 => ?_
  refine comp_core (RR := fun acc C => compPost (model X.prog X.w) X.A X.xe none (EP X pins σ Q) acc C) hc B c1 c2 hk hg ht he h2 fun D C H' s' m J f nn q => ?_
  exact ⟨m, nn, fun h' sb => ⟨.ref D, H', J.turned (t' := s'.toks) (fun b o hb e => sb.extBut b o hb e) f.1 f.2.1 f.2.2.2.1 f.2.2.2.2.1 f.2.2.2.2.2, rfl, q⟩⟩
theorem ps_setC {i : Nat} {x : Str} {pos' spos : Pos} (hc : X.calm = true) (B : Blk X scope N n cap) (hN : X.N.Nodup) (hi : X.N[i]? = some x) (hx : X.env.scope.names.lookup x = some .local) (hit : PI X tg iter wi) (hk : KeepG n g)
    (hg : ∀ cl fp s H, PG (cxComp X N scope cl fp s H) tg g) (ht : ∀ cl fp s H, PTs (cxComp X N scope cl fp s H) ifs tt) (he : ∀ cl fp s H, PE (cxComp X N scope cl fp s H) elt te)
    (hsw : swapsWith (.ListComp elt [⟨tg, iter, ifs, 0⟩] scope pos) (some (.Name x pos')) spos.line X.env = pure true)
    (hs : ∀ x, foldedSetIterable iter X.env x = pure x := by intro _; rfl) :
    PS X (.Assign [.Name x pos'] (.ListComp elt [⟨tg, iter, ifs, 0⟩] scope pos) spos) (tAsg (tComp n cap wi g tt te) (gName i)) := by
  intro pins s σ H D I h
  obtain ⟨cl, ecl, c1, c2⟩ := closure_ok (scope := scope) (env := X.env) fun y hy k => I.ok.has y.1 (B.free y hy k)
  rw [exec_Assign_Name_used _ _ _ _ hsw]
  refine wpAny_bind (wpAny_standAt (wpAny_bind ?_))
  show wpAny _ X.A (do
    let _ ← comprehension (.ListComp elt [⟨tg, iter, ifs, 0⟩] scope pos) scope X.env _ (newList []) false (eval iter X.env)
      (some (assign (.Name x pos') X.env))) _ _ s
  refine wpAny_bind (thn (wpAny_comprehension_free (use := some (assign (.Name x pos') X.env)) (Q := fun _ s' => SP X pins D .next s') rfl hs ecl B.kind B.names ?_) fun _ s' hq => wpAny_pure (wpAny_pure hq))
  refine thn (hit pins s σ H _ I h) fun v s1 h1 => thn h1 fun itv s2 h2 => ?_
  refine comp_core (Q := fun y H2 => gName i y σ H2 D.nx) (RR := fun acc C => compPost (model X.prog X.w) X.A X.xe (some (assign (.Name x pos') X.env)) (fun _ s' => SP X pins D .next s') acc C) hc B c1 c2 hk hg ht he h2 fun Dl C H' s' m J f nn q => ?_
  show wpAny (model X.prog X.w) X.A (assign (.Name x pos') X.env (.ref Dl)) _ X.xe s'
  refine wpAny_assign_Name (store_ok2 J hN hi (.inl hx) (show RelV (.ref Dl) (.ref Dl) from rfl) (fun s3 I3 ⟨a, sb, ha⟩ => ?_) (.inr hx))
  have ca : C ≠ a := by
    rcases ha with e | e
    · rw [e]; exact f.2.1
    · exact fun z => f.2.2.2.2.1 x a e z.symm
  refine ⟨m, nn.sameBut sb ca, fun h' sb' => ⟨_, H', I3.turned (t' := s3.toks) (fun b o hb e => sb'.extBut b o hb e) f.1 f.2.1 f.2.2.2.1 f.2.2.2.2.1 f.2.2.2.2.2, q⟩⟩
end

section
variable {g : TG} {tt : TT} {te : TE} {n0 : Nat} {cap : List Nat} {σ : St} {Q : VK} {D : Addr} {H1 : Hp} {K : PySem.W.Frag}
theorem comp_range {lo : Int} {n : Nat} (Pv : Nat → Hp → Prop) (h0 : Pv 0 (upd H1 D (.lst [])))
    (hs : ∀ i H, i < n → Pv i H → g (.int (lo + i)) (blockSt n0 cap σ) H fun σ2 H2 => tt σ2 H2 fun b H3 => if b = true then te σ2 H3 fun y H4 => ∃ xs, H4 D = some (.lst xs) ∧ xs.length < sizeLine ∧ Pv (i + 1) (upd H4 D (.lst (xs ++ [y]))) else Pv (i + 1) H3)
    (hd : ∀ H, Pv n H → Q (.ref D) H) :
    compRun (Itr lo n) D n0 cap σ g tt te Q H1 := by
  refine ⟨fun i m H => m = n - i ∧ i ≤ n ∧ Pv i H, ⟨n, by simp, Nat.zero_le _, h0⟩, ?_⟩
  rintro i m H ⟨rfl, hi, p⟩
  by_cases hlt : i < n
  · refine .inr ⟨hlt, Pv (i + 1), fun H' p' => ⟨n - (i + 1), by omega, rfl, hlt, p'⟩, fun x H' y => ?_⟩
    obtain ⟨e1, e2⟩ := y
    subst e1 e2
    exact hs i _ hlt p
  · have e : i = n := by omega
    subst e
    exact .inl ⟨Nat.le_refl _, hd H p⟩
theorem comp_list {a : Addr} {xs : List V} (Pv : Nat → Hp → Prop) (h0 : Pv 0 (upd H1 D (.lst []))) (hl : ∀ i H, i ≤ xs.length → Pv i H → SqL K H a xs)
    (hs : ∀ i x H, xs[i]? = some x → Pv i H → g x (blockSt n0 cap σ) H fun σ2 H2 => tt σ2 H2 fun b H3 => if b = true then te σ2 H3 fun y H4 => ∃ xs, H4 D = some (.lst xs) ∧ xs.length < sizeLine ∧ Pv (i + 1) (upd H4 D (.lst (xs ++ [y]))) else Pv (i + 1) H3)
    (hd : ∀ H, Pv xs.length H → Q (.ref D) H) :
    compRun (Itl K a) D n0 cap σ g tt te Q H1 := by
  refine ⟨fun i m H => m = xs.length - i ∧ i ≤ xs.length ∧ Pv i H, ⟨xs.length, by simp, Nat.zero_le _, h0⟩, ?_⟩
  rintro i m H ⟨rfl, hi, p⟩
  have q := hl i H hi p
  by_cases hlt : i < xs.length
  · refine .inr ⟨⟨xs, xs[i], q, by simp [hlt]⟩, Pv (i + 1), fun H' p' => ⟨xs.length - (i + 1), by omega, rfl, hlt, p'⟩, fun x H' y => ?_⟩
    obtain ⟨e1, y⟩ := y
    subst e1
    exact hs i x _ (y xs q) p
  · have e : i = xs.length := by omega
    subst e
    exact .inl ⟨⟨xs, q, Nat.le_refl _⟩, hd H p⟩
end
end L2
namespace L2
open PySem PySem.Spec PyProof.Rows

end L2
namespace L2
open PySem PySem.Spec PyProof.Rows
open PySem.W (Dat kqdP kqdPs kqdOk)

mutual
inductive Rep (K : PySem.W.Frag) (H : Hp) : V → Dat → Prop
  | non : Rep K H .non .none
  | bl (b : Bool) : Rep K H (.bl b) (.bool b)
  | int (i : Int) : Rep K H (.int i) (.int i)
  | str (x : Str) : Rep K H (.str x) (.str x)
  | tup {a : Addr} {xs : List V} {ds : List Dat} : SqT K H a xs → Reps K H xs ds → Rep K H (.ref a) (.tuple ds)
  | lst {a : Addr} {xs : List V} {ds : List Dat} : SqL K H a xs → Reps K H xs ds → Rep K H (.ref a) (.list ds)
inductive Reps (K : PySem.W.Frag) (H : Hp) : List V → List Dat → Prop
  | nil : Reps K H [] []
  | cons {x : V} {xs : List V} {d : Dat} {ds : List Dat} : Rep K H x d → Reps K H xs ds → Reps K H (x :: xs) (d :: ds)
end

theorem Same.seqT {K : PySem.W.Frag} {H H' : Hp} {a : Addr} {xs : List V} (e : Same H H') (h : SqT K H a xs) : SqT K H' a xs := by
  rcases h with h | h
  · rcases h with h | ⟨o, h⟩
    · exact .inl (.inl (e _ _ h))
    · exact .inl (.inr ⟨o, e _ _ h⟩)
  · exact .inr h
mutual
theorem Rep.mono {K : PySem.W.Frag} {H H' : Hp} (s : Same H H') : ∀ {v : V} {d : Dat}, Rep K H v d → Rep K H' v d
  | _, _, .non => .non
  | _, _, .bl b => .bl b
  | _, _, .int i => .int i
  | _, _, .str x => .str x
  | _, _, .tup h r => .tup (s.seqT h) (Reps.mono s r)
  | _, _, .lst h r => .lst (s.seq h) (Reps.mono s r)
theorem Reps.mono {K : PySem.W.Frag} {H H' : Hp} (s : Same H H') : ∀ {vs : List V} {ds : List Dat}, Reps K H vs ds → Reps K H' vs ds
  | _, _, .nil => .nil
  | _, _, .cons h r => .cons (Rep.mono s h) (Reps.mono s r)
end
theorem Reps.length {K : PySem.W.Frag} {H : Hp} : ∀ {vs : List V} {ds : List Dat}, Reps K H vs ds → vs.length = ds.length
  | _, _, .nil => rfl
  | _, _, .cons _ r => congrArg Nat.succ (Reps.length r)
theorem Reps.get {K : PySem.W.Frag} {H : Hp} : ∀ {vs : List V} {ds : List Dat} {i : Nat} {v : V}, Reps K H vs ds → vs[i]? = some v → ∃ d, ds[i]? = some d ∧ Rep K H v d
  | _, _, _, _, .nil, e => by simp at e
  | _, _, 0, _, .cons h _, e => by simp at e; subst e; exact ⟨_, rfl, h⟩
  | _, _, i + 1, v, .cons _ r, e => by
    obtain ⟨d, h1, h2⟩ := Reps.get (i := i) (v := v) r (by simpa using e)
    exact ⟨d, by simpa using h1, h2⟩
theorem Reps.getD {K : PySem.W.Frag} {H : Hp} : ∀ {vs : List V} {ds : List Dat} {i : Nat} {d : Dat}, Reps K H vs ds → ds[i]? = some d → ∃ v, vs[i]? = some v ∧ Rep K H v d
  | _, _, _, _, .nil, e => by simp at e
  | _, _, 0, _, .cons h _, e => by simp at e; subst e; exact ⟨_, rfl, h⟩
  | _, _, i + 1, v, .cons _ r, e => by
    obtain ⟨d, h1, h2⟩ := Reps.getD (i := i) (d := v) r (by simpa using e)
    exact ⟨d, by simpa using h1, h2⟩
theorem Reps.append {K : PySem.W.Frag} {H : Hp} : ∀ {vs us : List V} {ds es : List Dat}, Reps K H vs ds → Reps K H us es → Reps K H (vs ++ us) (ds ++ es)
  | _, _, _, _, .nil, s => s
  | _, _, _, _, .cons h r, s => .cons h (Reps.append r s)
theorem Reps.snoc {K : PySem.W.Frag} {H : Hp} {vs : List V} {ds : List Dat} {v : V} {d : Dat} (r : Reps K H vs ds) (h : Rep K H v d) : Reps K H (vs ++ [v]) (ds ++ [d]) := r.append (.cons h .nil)
theorem Reps.ints {K : PySem.W.Frag} {H : Hp} : ∀ ns : List Int, Reps K H (ns.map V.int) (ns.map Dat.int)
  | [] => .nil
  | n :: r => .cons (.int n) (Reps.ints r)

section
variable {X : Cx} {pins : List (Addr × Obj)} {σ : St} {H : Hp} {s : Shared}
mutual
theorem Rep.reads (I : Inv X pins σ H s) : ∀ (n : Nat) {v : V} {d : Dat} {u : Value}, Rep X.K H v d → RelV v u → kqdOk n d = true → ∃ as, Reads s.heap u (kqdP d) as
  | _, _, _, _, .non, r, _ => by cases (show _ = _ from r); exact ⟨_, Reads.none⟩
  | _, _, _, _, .bl b, r, _ => by cases (show _ = _ from r); exact ⟨_, Reads.bool b⟩
  | _, _, _, _, .int i, r, _ => by obtain ⟨t, rfl⟩ := r; exact ⟨_, Reads.int i t⟩
  | _, _, _, _, .str x, r, _ => by obtain ⟨t, rfl⟩ := r; exact ⟨_, Reads.str x t⟩
  | 0, _, _, _, .tup _ _, _, hk => by simp [kqdOk] at hk
  | 0, _, _, _, .lst _ _, _, hk => by simp [kqdOk] at hk
  | n + 1, _, _, _, .tup h q, r, hk => by
    cases (show _ = _ from r)
    obtain ⟨its, rv, ⟨o, e, c, m, d⟩, _⟩ := I.tuple h
    obtain ⟨as, z⟩ := Reps.reads I n q rv (by simpa [kqdOk] using hk)
    rw [kqdP]
    exact ⟨as, reads_tuple_at e c d (by simpa using z)⟩
  | n + 1, _, _, _, .lst h q, r, hk => by
    cases (show _ = _ from r)
    obtain ⟨its, rv, ⟨o, m, e, c, _, d⟩, _⟩ := I.list h
    obtain ⟨as, z⟩ := Reps.reads I n q rv (by simpa [kqdOk] using hk)
    rw [kqdP]
    exact ⟨_, reads_list_at e c d (by simpa using z)⟩
theorem Reps.reads (I : Inv X pins σ H s) : ∀ (n : Nat) {vs : List V} {ds : List Dat} {us : List Value}, Reps X.K H vs ds → Vals vs us → (∀ d ∈ ds, kqdOk n d = true) → ∃ as, ReadsAll s.heap us (kqdPs ds) as
  | _, _, _, _, .nil, r, _ => by cases r; exact ⟨_, ReadsAll.nil⟩
  | n, _, _, _, .cons h q, r, hk => by
    cases r with
    | cons r1 r2 =>
      obtain ⟨as, z⟩ := Rep.reads I n h r1 (hk _ (.head _))
      obtain ⟨bs, y⟩ := Reps.reads I n q r2 fun d hm => hk d (.tail _ hm)
      rw [kqdPs]
      exact ⟨_, ReadsAll.cons z y⟩
end
end

noncomputable def rEqD (K : PySem.W.Frag) (neg : Bool) : R2 := fun x y H Q => ∃ dx dy, Rep K H x dx ∧ Rep K H y dy ∧ kqdOk 8 dx = true ∧ kqdOk 8 dy = true ∧ (dx = dy → Q (.bl (!neg)) H) ∧ (dx ≠ dy → Q (.bl neg) H)
section
variable {X : Cx}
theorem shaped_of {d : Dat} (h : kqdOk 8 d = true) : SeqAt.shaped (kqdP d) = true := by
  have l := PySem.W.kqd_lay 8 d h
  unfold SeqAt.shaped
  rw [l.1, Bool.true_and]
  exact decide_eq_true (Nat.le_trans l.2 (by decide))
theorem op_eqD (hu : X.A.units + 64 < cLine) : OpR X (compareOp .Eq) (rEqD X.K false) := by
  intro pins s σ H x y v u Q I rx ry ⟨dx, dy, hx, hy, kx, ky, q1, q2⟩
  obtain ⟨as, ra⟩ := Rep.reads I 8 hx rx kx
  obtain ⟨bs, rb⟩ := Rep.reads I 8 hy ry ky
  have e := PySem.W.kqd_eqv 8 dx dy 8 kx ky
  refine eq_dataH ra rb (shaped_of kx) (shaped_of ky) hu ?_
  cases z : PyData.eqv (kqdP dx) (kqdP dy) with
  | true => exact ⟨.bl true, H, I, rfl, q1 (e.mp z)⟩
  | false => exact ⟨.bl false, H, I, rfl, q2 fun w => by rw [e.mpr w] at z; cases z⟩
theorem op_neD (hu : X.A.units + 64 < cLine) : OpR X (compareOp .NotEq) (rEqD X.K true) := by
  intro pins s σ H x y v u Q I rx ry ⟨dx, dy, hx, hy, kx, ky, q1, q2⟩
  obtain ⟨as, ra⟩ := Rep.reads I 8 hx rx kx
  obtain ⟨bs, rb⟩ := Rep.reads I 8 hy ry ky
  have e := PySem.W.kqd_eqv 8 dx dy 8 kx ky
  refine ne_dataH ra rb (shaped_of kx) (shaped_of ky) hu ?_
  cases z : PyData.eqv (kqdP dx) (kqdP dy) with
  | true => exact ⟨.bl false, H, I, rfl, q1 (e.mp z)⟩
  | false => exact ⟨.bl true, H, I, rfl, q2 fun w => by rw [e.mpr w] at z; cases z⟩
noncomputable def CBits (i j : Int) : Prop := Builtin.Int.intBits i ≤ 2 ^ 20 ∧ Builtin.Int.intBits j ≤ 2 ^ 20
theorem op_mulB : OpR X (binaryOp .Mult) (rI CBits fun i j => .int (i * j)) := opI fun i j t u s Q E h q => mul_int q (IntMulOk.of_bits h.1 h.2)
theorem bits_of {i : Int} {k : Nat} (hk : k ≤ 2 ^ 20) (h1 : -(2 ^ k) < i) (h2 : i < 2 ^ k) : Builtin.Int.intBits i ≤ 2 ^ 20 := by
  unfold Builtin.Int.intBits
  split
  · exact Nat.zero_le _
  · rename_i h0
    have hn : i.natAbs < 2 ^ k := by
      have e : ((2 ^ k : Nat) : Int) = 2 ^ k := by norm_cast
      omega
    have : i.natAbs.log2 < k := by
      refine (Nat.log2_lt ?_).mpr hn
      intro z
      simp at h0
      omega
    omega
end
end L2
namespace L2
open PySem PySem.Spec PyProof.Rows
section
variable {X : Cx} {K : PySem.W.Frag}
end
end L2
namespace L2
open PySem PySem.Spec PyProof.Rows
structure Bx (p : Prop) : Prop where
  get : p
section
variable {X : Cx} {a b c e l o i f elt tg iter target value : Expr} {es ts rest : List Expr} {st : Stmt} {sts body els : List Stmt} {ta tb tc te td ty tx tv tl to ti : TE} {tA tB' : TT} {t tr : TA} {s u tb' : TS} {g : TG} {gs : TGs} {wi : TI} {tt : TT}
  {pos apos cpos p pos' spos : Pos} {op op' : CmpOp} {bop : Operator} {r r' : R2} {lo hi : Option Expr} {tlo thi : TO}
theorem bpv (k : Nat) {x : Str} {pos : Pos} (hN : X.N[k]? = some x := by rfl) (hv : Vis X.env.scope x := by first | exact Or.inl rfl | exact Or.inr (Or.inl rfl) | exact Or.inr (Or.inr rfl))
    (hd : (x == ("__debug__" : Str)) = false := by decide) (hcd : (x == ("__classdict__" : Str)) = false := by decide) : Bx (PE X (.Name x pos) (tVar k)) := ⟨pe_var hN hv hd hcd⟩
theorem bpe_int {k : Int} {j pos} : Bx (PE X (.Constant (.int k) j pos) (tC (.int k))) := ⟨pe_int⟩
theorem bpe_bl {k : Bool} {j pos} : Bx (PE X (.Constant (.bool k) j pos) (tC (.bl k))) := ⟨pe_bl⟩
theorem bpe_non {j pos} : Bx (PE X (.Constant .none j pos) (tC .non)) := ⟨pe_non⟩
theorem bpe_str {x : Str} {j pos} : Bx (PE X (.Constant (.str x) j pos) (tC (.str x))) := ⟨pe_str⟩
theorem bpe_glob {x : Str} {v : V} {w : Value} {pos : Pos} (hg : Gl X x) (hm : X.mg x = some w) (r : RelV v w) (hd : (x == ("__debug__" : Str)) = false := by decide) : Bx (PE X (.Name x pos) (tC v)) := ⟨pe_glob hg hm r hd⟩
theorem bpe_bltn {x : Str} {v : V} {w : Value} {pos : Pos} (hg : Gl X x) (hm : X.mg x = none) (hv : bootBuiltins x = some w) (r : RelV v w) (hn : x ≠ "__name__" := by decide) (hd : (x == ("__debug__" : Str)) = false := by decide) : Bx (PE X (.Name x pos) (tC v)) := ⟨pe_bltn hg hm hv r hn hd⟩
theorem bpe_op (ho : OpR X (binaryOp bop) r) (ha : Bx (PE X a ta)) (hb : Bx (PE X b tb)) : Bx (PE X (.BinOp a bop b pos) (tOp r ta tb)) := ⟨pe_op ho ha.1 hb.1⟩
theorem bpe_un {uop : UnaryOp} {r : V → Hp → VK → Prop} (ho : UnR X (unaryOp uop) r) (ha : Bx (PE X a ta)) : Bx (PE X (.UnaryOp uop a pos) (tUn r ta)) := ⟨pe_un ho ha.1⟩
theorem bpe_cmpR (ho : OpR X (compareOp op) r) (ha : Bx (PE X a ta)) (hb : Bx (PE X b tb)) (hm : behindInMarks op b = false) : Bx (PE X (.Compare a [op] [b] pos) (tOp r ta tb)) := ⟨pe_cmpR ho ha.1 hb.1 hm⟩
theorem bpt_cmpR (ho : OpR X (compareOp op) r) (ha : Bx (PE X a ta)) (hb : Bx (PE X b tb)) (hm : behindInMarks op b = false) : Bx (PT X (.Compare a [op] [b] pos) (tTest (tOp r ta tb))) := ⟨pt_cmpR ho ha.1 hb.1 hm⟩
theorem bpc_isN {j pos'} (ha : Bx (PE X a ta)) : Bx (PC X .Is a (.Constant .none j pos') (tIsN ta)) := ⟨pc_isN ha.1⟩
theorem bpc_notN {j pos'} (ha : Bx (PE X a ta)) : Bx (PC X .IsNot a (.Constant .none j pos') (tNotN ta)) := ⟨pc_notN ha.1⟩
theorem bpt_cmp (h : Bx (PC X op a b te)) (h1 : behindInMarks op b = false := by first | exact nobehind _ (by decide) (by decide) | rfl) : Bx (PT X (.Compare a [op] [b] pos) (tB te)) := ⟨pt_cmp h.1 h1⟩
theorem bpt_val (h : Bx (PE X e te)) (he : ∀ whole, isTrue e X.env whole = (do let v ← whole; standAt e.pos; holding [v] (truthy v)) := by intro _; rfl) : Bx (PT X e (tB te)) := ⟨pt_val h.1 he⟩
theorem bPW_pt (h : Bx (PW X e tt)) : Bx (PT X e tt) := ⟨h.1.pt⟩
theorem bpw_and1 (ha : Bx (PT X a tA)) : Bx (PW X (.BoolOp .And [a] pos) tA) := ⟨pw_and1 ha.1⟩
theorem bpw_or1 (ha : Bx (PT X a tA)) : Bx (PW X (.BoolOp .Or [a] pos) tA) := ⟨pw_or1 ha.1⟩
theorem bpw_and (ha : Bx (PT X a tA)) (hb : Bx (PW X (.BoolOp .And (b :: rest) pos) tB')) : Bx (PW X (.BoolOp .And (a :: b :: rest) pos) (tAnd tA tB')) := ⟨pw_and ha.1 hb.1⟩
theorem bpw_or (ha : Bx (PT X a tA)) (hb : Bx (PW X (.BoolOp .Or (b :: rest) pos) tB')) : Bx (PW X (.BoolOp .Or (a :: b :: rest) pos) (tOr tA tB')) := ⟨pw_or ha.1 hb.1⟩
theorem bpt_not (ha : Bx (PT X a tA)) : Bx (PT X (.UnaryOp .Not a pos) (tNot tA)) := ⟨pt_not ha.1⟩
theorem bpe_not (ha : Bx (PE X a ta)) : Bx (PE X (.UnaryOp .Not a pos) (tNotV ta)) := ⟨pe_not ha.1⟩
theorem bpa_nil : Bx (PA X [] tNil) := ⟨pa_nil⟩
theorem bpa_cons (ha : Bx (PE X e te)) (hr : Bx (PA X es t)) (hs : starEach (e :: es) X.env = (false, eval e X.env) :: starEach es X.env := by rfl) : Bx (PA X (e :: es) (tCons te t)) := ⟨pa_cons ha.1 hr.1 hs⟩
theorem bpe_tup {x1} (h : Bx (PA X es t)) : Bx (PE X (.Tuple es x1 pos) (tTup t)) := ⟨pe_tup h.1⟩
theorem bpe_lst (h : Bx (PA X es t)) : Bx (PE X (.List es pos) (tLst t)) := ⟨pe_lst h.1⟩
theorem bpe_ix (hr : IxR X r) (ha : Bx (PE X a ta)) (hb : Bx (PE X b tb)) (hs : PlainIx b) : Bx (PE X (.Subscript a b pos) (tOp r ta tb)) := ⟨pe_ix hr ha.1 hb.1 hs⟩
theorem bpo_none : Bx (PO X none tNoPart) := ⟨po_none⟩
theorem bpo_some (h : Bx (PE X e te)) : Bx (PO X (some e) (tPart te)) := ⟨po_some h.1⟩
theorem bpe_slice {r : V → Option Int → Option Int → Hp → VK → Prop} {p2 : Pos} (hr : SlR X r) (he : Bx (PE X e te)) (hl : Bx (PO X lo tlo)) (hu : Bx (PO X hi thi)) : Bx (PE X (.Subscript e (.Slice lo hi none p2) pos) (tSl r te tlo thi)) := ⟨pe_slice hr he.1 hl.1 hu.1⟩
theorem bpe_callB {r : List V → Hp → VK → Prop} {x : Str} {id : String} (hc : CallR X (.builtin id) r) (hg : Gl X x) (hm : X.mg x = none) (hv : bootBuiltins x = some (.builtin id)) (ha : Bx (PA X (e :: es) t)) (hn : x ≠ "__name__" := by decide) (hdb : (x == ("__debug__" : Str)) = false := by decide)
    (he : starEach (e :: es) X.env = (false, eval e X.env) :: starEach es X.env := by rfl) (hpl : (backTo pos (starEach es X.env)).any (·.1) = false := by rfl) : Bx (PE X (.Call (.Name x p) (e :: es) [] pos) (tCB r t)) := ⟨pe_callB hc hg hm hv ha.1 hn hdb he hpl⟩
theorem bpe_callTy {r : List V → Hp → VK → Prop} {x : Str} {T : String} (hc : CallR X (.type T) r) (hg : Gl X x) (hm : X.mg x = none) (hv : bootBuiltins x = some (.type T)) (ha : Bx (PA X (e :: es) t)) (hn : x ≠ "__name__" := by decide) (hdb : (x == ("__debug__" : Str)) = false := by decide)
    (he : starEach (e :: es) X.env = (false, eval e X.env) :: starEach es X.env := by rfl) (hpl : (backTo pos (starEach es X.env)).any (·.1) = false := by rfl) : Bx (PE X (.Call (.Name x p) (e :: es) [] pos) (tCB r t)) := ⟨pe_callTy hc hg hm hv ha.1 hn hdb he hpl⟩
theorem bpe_call {CX : CXT} {k : Nat} {fa : Addr} {fd : FuncData} {ps : List Str} {sp : Sp} {dvs : List V} {ds : List Value} {E : XK} {x : Str} (F : FnOk X.prog X.w X.K X.mg X.base CX k fa fd ps sp) (hr : Room k X.A) (hg : Gl X x) (hm : X.mg x = some (.ref fa)) (hk : PySem.W.keepIn X.K (.ref fa) = true)
    (hb : Binds X.K fd ps ds) (hd : Vals dvs ds) (hx : Passes CX X E) (ha : Bx (PA X (e :: es) t)) (hdb : (x == ("__debug__" : Str)) = false := by decide)
    (he : starEach (e :: es) X.env = (false, eval e X.env) :: starEach es X.env := by rfl) (hpl : (backTo pos (starEach es X.env)).any (·.1) = false := by rfl) : Bx (PE X (.Call (.Name x p) (e :: es) [] pos) (tCall sp dvs E t)) := ⟨pe_call F hr hg hm hk hb hd hx ha.1 hdb he hpl⟩
theorem bpe_bm {name : Str} {T id : String} {r : V → List V → Hp → VK → Prop} (pa : PlainAttrs T) (slot : Slot T name id) (hty : typeOf (.builtin id) = pure (.type "method_descriptor")) (hm : MtR X id r) (ho : Bx (PE X o to)) (ha : Bx (PA X (e :: es) t))
    (h1 : attributeBase o name X.env (eval o X.env) = eval o X.env := by rfl)
    (h2 : ((backTo cpos (starEach (e :: es) X.env)).all (fun x => !x.1) && (backToKw cpos (keywordEach [] X.env)).all (fun x => x.1.isSome) && decide ((e :: es).length + ([] : List Keyword).length + (if ([] : List Keyword).isEmpty then 0 else 1) < 30)) = true := by rfl)
    (h3 : (apos.endLine == cpos.line) = true := by rfl) (h4 : starEach (e :: es) X.env = (false, eval e X.env) :: starEach es X.env := by rfl) (h5 : (backTo cpos (starEach es X.env)).any (·.1) = false := by rfl) :
    Bx (PE X (.Call (.Attribute o name apos) (e :: es) [] cpos) (tBM X.K T r to t)) := ⟨pe_bm pa slot hty hm ho.1 ha.1 h1 h2 h3 h4 h5⟩
theorem bpss_nil : Bx (PSs X [] tNext) := ⟨pss_nil⟩
theorem bpss_cons (h1 : Bx (PS X st s)) (h2 : Bx (PSs X sts u)) : Bx (PSs X (st :: sts) (tSeq s u)) := ⟨pss_cons h1.1 h2.1⟩
theorem bpss_one (h1 : Bx (PS X st s)) : Bx (PSs X [st] s) := ⟨pss_one h1.1⟩
theorem bps_expr (he : Bx (PE X e te)) (hs : swapsWith e none pos.line X.env = pure false := by rfl) : Bx (PS X (.Expr e pos) (tDrop te)) := ⟨ps_expr he.1 hs⟩
theorem bps_ret (he : Bx (PE X e te)) : Bx (PS X (.Return (some e) pos) (tRet te)) := ⟨ps_ret he.1⟩
theorem bps_if (hc : Bx (PT X c tA)) (ha : Bx (PSs X body s)) (hb : Bx (PSs X els u)) : Bx (PS X (.If c body els pos) (tIfS tA s u)) := ⟨ps_if hc.1 ha.1 hb.1⟩
theorem bpg_name {k : Nat} {x : Str} (hN : X.N.Nodup) (hi : X.N[k]? = some x) (hx : Loc X.env.scope x) (hf : X.fn x = true ∨ X.env.scope.names.lookup x = some .local := by first | exact .inl rfl | exact .inr rfl | assumption) : Bx (PG X (.Name x pos) (gName k)) := ⟨pg_name hN hi hx hf⟩
theorem bpg_sub {tset : TSet} (ho : Bx (PE X o to)) (hi : Bx (PE X i ti)) (hs : PSet X tset)
    (ha : ∀ v, assign (.Subscript o i pos) X.env v = (do
      let ov ← holding [v] (eval o X.env)
      let iv ← holding [v, ov] (eval i X.env)
      standAt pos
      holding [v, ov, iv] (setItem ov iv v)
      release [v, ov, iv] []) := by intro _; rfl) : Bx (PG X (.Subscript o i pos) (gSub to ti tset)) := ⟨pg_sub ho.1 hi.1 hs ha⟩
theorem bps_asg (he : Bx (PE X e te)) (hg : Bx (PG X tg g)) (hs : swapsWithSole [tg] e pos.line X.env = pure false := by rfl) (hw : swappedStores [tg] e X.env = pure none := by rfl)
    (h1 : (assignEach [tg] X.env).map (·.2) = [assign tg X.env] := by rfl) : Bx (PS X (.Assign [tg] e pos) (tAsg te g)) := ⟨ps_asg he.1 hg.1 hs hw h1⟩
theorem bps_set {k : Nat} {x : Str} (hN : X.N.Nodup) (hi : X.N[k]? = some x) (hx : Loc X.env.scope x) (he : Bx (PE X e te)) (hs : swapsWith e (some (.Name x pos')) pos.line X.env = pure false := by rfl) (hf : X.fn x = true ∨ X.env.scope.names.lookup x = some .local := by first | exact .inl rfl | exact .inr rfl | assumption) :
    Bx (PS X (.Assign [.Name x pos'] e pos) (tAsg te (gName k))) := ⟨ps_set hN hi hx he.1 hs hf⟩
theorem bps_for (hp : PassesOwn (model X.prog X.w) X.A X.env X.xe) (hc : X.calm = true) (hi : Bx (PI X tg iter wi)) (hg : Bx (PG X tg g)) (hb : Bx (PSs X body tb')) (hs : ∀ x, foldedSetIterable iter X.env x = pure x := by intro _; rfl) : Bx (PS X (.For tg iter body [] pos) (tFor wi g tb')) := ⟨ps_for hp hc hi.1 hg.1 hb.1 hs⟩
theorem bpi_list (hl : Bx (PE X l tl)) : Bx (PI X tg l (iList X.K tl)) := ⟨pi_list hl.1⟩
theorem bpi_range1 (hg : Gl X "range") (hm : X.mg "range" = none) (ha : Bx (PA X [a] t)) (hs : starEach [a] X.env = [(false, eval a X.env)] := by rfl) : Bx (PI X tg (.Call (.Name "range" p) [a] [] pos) (iRng1 t)) := ⟨pi_range1 hg hm ha.1 hs⟩
theorem bpts_nil : Bx (PTs X [] tYes) := ⟨pts_nil⟩
theorem bpts_one (h : Bx (PT X c tA)) : Bx (PTs X [c] tA) := ⟨pts_one h.1⟩
theorem bpe_comp {ifs : List Expr} {scope : Scope} {N : List Str} {n : Nat} {cap : List Nat} (hc : X.calm = true) (B : Blk X scope N n cap) (hi : Bx (PI X tg iter wi)) (hk : KeepG n g)
    (hg : ∀ cl fp s H, Bx (PG (cxComp X N scope cl fp s H) tg g)) (ht : ∀ cl fp s H, Bx (PTs (cxComp X N scope cl fp s H) ifs tt)) (he : ∀ cl fp s H, Bx (PE (cxComp X N scope cl fp s H) elt te))
    (hs : ∀ x, foldedSetIterable iter X.env x = pure x := by intro _; rfl) : Bx (PE X (.ListComp elt [⟨tg, iter, ifs, 0⟩] scope pos) (tComp n cap wi g tt te)) :=
  ⟨pe_comp hc B hi.1 hk (fun cl fp s H => (hg cl fp s H).1) (fun cl fp s H => (ht cl fp s H).1) (fun cl fp s H => (he cl fp s H).1) hs⟩
theorem bps_setC {ifs : List Expr} {scope : Scope} {N : List Str} {n : Nat} {cap : List Nat} {k : Nat} {x : Str} (hc : X.calm = true) (B : Blk X scope N n cap) (hN : X.N.Nodup) (hi : X.N[k]? = some x) (hx : X.env.scope.names.lookup x = some .local) (hit : Bx (PI X tg iter wi)) (hk : KeepG n g)
    (hg : ∀ cl fp s H, Bx (PG (cxComp X N scope cl fp s H) tg g)) (ht : ∀ cl fp s H, Bx (PTs (cxComp X N scope cl fp s H) ifs tt)) (he : ∀ cl fp s H, Bx (PE (cxComp X N scope cl fp s H) elt te))
    (hsw : swapsWith (.ListComp elt [⟨tg, iter, ifs, 0⟩] scope pos) (some (.Name x pos')) spos.line X.env = pure true) (hs : ∀ x, foldedSetIterable iter X.env x = pure x := by intro _; rfl) :
    Bx (PS X (.Assign [.Name x pos'] (.ListComp elt [⟨tg, iter, ifs, 0⟩] scope pos) spos) (tAsg (tComp n cap wi g tt te) (gName k))) :=
  ⟨ps_setC hc B hN hi hx hit.1 hk (fun cl fp s H => (hg cl fp s H).1) (fun cl fp s H => (ht cl fp s H).1) (fun cl fp s H => (he cl fp s H).1) hsw hs⟩
end
section
variable {P : Program} {w : World} {K : PySem.W.Frag} {mg : Str → Option Value} {base : Heap}
theorem Fun.okB {x qual : Str} {st : Stmt} {f : Addr} {fd : FuncData} {N ps : List Str} {k : Nat} {sp : Sp} (F : Fun K x qual st f fd) (S : FnScope N ps (defScope st)) (len : ∀ vs H Q E, sp vs H Q E → vs.length = ps.length)
    (hbody : ∀ (cdv : Value) (A : Around) (outer : List Env) (s : Shared) (H : Hp) (vs : List V) (Q : VK) (E : XK), Room k (A.deeper (envOfC qual (defScope st) s.heap.objs.size f cdv)) → sp vs H Q E →
      ∃ t, Bx (PSs (cxOf CX0 P w K mg base N qual (defScope st) f cdv A outer s H E).nox (defBody st) t) ∧ t { nx := fun _ H' => Q .non H', rt := Q } (start N vs) H) : FnOk P w K mg base CX0 (k + 1) f fd ps sp :=
  F.ok S len fun cdv A outer s H vs Q E hr h => let ⟨t, a, b⟩ := hbody cdv A outer s H vs Q E hr h; ⟨t, a.1, b⟩
end
end L2
namespace L2
open PySem PySem.Spec PyProof.Rows
section
variable {X : Cx}
end
end L2
namespace L2
open PySem PySem.Spec PyProof.Rows
open PySem.W (Dat kqdP kqdPs kqdOk)

theorem same_upd {H : Hp} {p : Addr} (h : H p = none) (o : HO) : Same H (upd H p o) := fun b u q => by rw [upd_ne (ne_of_none q h)]; exact q
theorem Same.upd {H H' : Hp} (s : Same H H') {p : Addr} (h : H' p = none) (o : HO) : Same H (upd H' p o) := s.trans (same_upd h o)
theorem Same.write {H H' : Hp} (s : Same H H') {p : Addr} (h : H p = none) (o : HO) : Same H (L2.upd H' p o) := fun b u q => by rw [upd_ne (ne_of_none q h)]; exact s b u q
noncomputable def SameB (p : Addr) (H H' : Hp) : Prop := ∀ b o, b ≠ p → H b = some o → H' b = some o
theorem SameB.refl (p : Addr) (H : Hp) : SameB p H H := fun _ _ _ h => h
theorem Same.b {H H' : Hp} (s : Same H H') (p : Addr) : SameB p H H' := fun b o _ h => s b o h
theorem SameB.trans {p : Addr} {H H1 H2 : Hp} (a : SameB p H H1) (b : SameB p H1 H2) : SameB p H H2 := fun c o n h => b c o n (a c o n h)
theorem SameB.write {p : Addr} {H H1 : Hp} (a : SameB p H H1) (o : HO) : SameB p H (L2.upd H1 p o) := fun c u n h => by rw [upd_ne n]; exact a c u n h
theorem SameB.same {p : Addr} {G H H1 : Hp} (s : Same G H) (g : G p = none) (a : SameB p H H1) : Same G H1 := fun b o q => a b o (ne_of_none q g) (s b o q)

structure Bld (K : PySem.W.Frag) (H0 : Hp) (p : Addr) (xs : List V) (ds : List Dat) (H : Hp) : Prop where
  ex : ∃ G, Same H0 G ∧ Same G H ∧ G p = none ∧ Reps K G xs ds
  at_ : H p = some (.lst xs)
section
variable {K : PySem.W.Frag} {H0 H : Hp} {p T : Addr} {xs vs : List V} {ds es : List Dat}
theorem Bld.start (h : H0 p = none) : Bld K H0 p [] [] (upd H0 p (.lst [])) := ⟨⟨H0, Same.refl _, same_upd h _, h, .nil⟩, upd_same⟩
theorem Bld.same (b : Bld K H0 p xs ds H) : Same H0 H := by
  obtain ⟨G, a, c, _⟩ := b.ex
  exact a.trans c
theorem Bld.out (b : Bld K H0 p xs ds H) : H0 p = none := by
  obtain ⟨G, a, _, c, _⟩ := b.ex
  exact a.free c
theorem Bld.reps (b : Bld K H0 p xs ds H) : Reps K H xs ds := by
  obtain ⟨G, _, a, _, r⟩ := b.ex
  exact r.mono a
theorem Bld.len (b : Bld K H0 p xs ds H) : xs.length = ds.length := b.reps.length
theorem Bld.sq (b : Bld K H0 p xs ds H) : SqL K H p xs := .of b.at_
theorem Bld.rep (b : Bld K H0 p xs ds H) : Rep K H (.ref p) (.list ds) := .lst b.sq b.reps
theorem Bld.new (b : Bld K H0 p xs ds H) (h : H T = none) (o : HO) : Bld K H0 p xs ds (upd H T o) := by
  obtain ⟨G, a, c, n, r⟩ := b.ex
  exact ⟨⟨G, a, c.upd h o, n, r⟩, by rw [upd_ne (ne_of_none b.at_ h)]; exact b.at_⟩
theorem Bld.grow {H' : Hp} (b : Bld K H0 p xs ds H) (s : Same H H') : Bld K H0 p xs ds H' := by
  obtain ⟨G, a, c, n, r⟩ := b.ex
  exact ⟨⟨G, a, c.trans s, n, r⟩, s _ _ b.at_⟩
theorem Bld.other {q : Addr} {o : HO} (b : Bld K H0 p xs ds H) (hq : q ≠ p) (hG : ∀ G, Same H0 G → Same G H → G p = none → Reps K G xs ds → ∃ G', Same H0 G' ∧ Same G' H ∧ G' p = none ∧ G' q = none ∧ Reps K G' xs ds) : Bld K H0 p xs ds (upd H q o) := by
  obtain ⟨G, a, c, n, r⟩ := b.ex
  obtain ⟨G', a', c', n', nq, r'⟩ := hG G a c n r
  exact ⟨⟨G', a', c'.write nq o, n', r'⟩, by rw [upd_ne (Ne.symm hq)]; exact b.at_⟩
theorem Bld.push {v : V} {d : Dat} (b : Bld K H0 p xs ds H) (r : Rep K H0 v d) : Bld K H0 p (xs ++ [v]) (ds ++ [d]) (upd H p (.lst (xs ++ [v]))) := by
  obtain ⟨G, a, c, n, rs⟩ := b.ex
  exact ⟨⟨G, a, c.write n _, n, rs.snoc (r.mono a)⟩, upd_same⟩
end
theorem big {n : Nat} (h : n ≤ 100000) : n < sizeLine := Nat.lt_of_le_of_lt h (by decide)
theorem bigE {n : Nat} (h : n ≤ 100000) : n ≤ sizeLine := Nat.le_of_lt (big h)
end L2
namespace L2
open PySem PySem.Spec PyProof.Rows
open PySem.W (Dat kqdP kqdPs kqdOk)
section
variable {X : Cx}
open Classical in
end
section
variable {X : Cx} {K : PySem.W.Frag}
end
section
variable {g : TG} {tt : TT} {te : TE} {n0 : Nat} {cap : List Nat} {σ : St} {Q : VK} {D : Addr} {H1 : Hp} {K : PySem.W.Frag}
end
end L2
namespace L2
open PySem PySem.Spec PyProof.Rows
open PySem.W (Dat kqdP kqdPs kqdOk)
structure Off (M : List Addr) (G H : Hp) : Prop where
  same : Same G H
  out : ∀ m ∈ M, G m = none
  there : ∀ m ∈ M, ∃ o, H m = some o
section
variable {M : List Addr} {G G1 G2 H H' : Hp} {T m : Addr} {o u : HO}
theorem Off.ne (f : Off M G H) (h : H T = none) : T ∉ M := fun z => by
  obtain ⟨o, e⟩ := f.there T z
  rw [h] at e
  cases e
theorem Off.new (f : Off M G H) (h : H T = none) (o : HO) : Off M G (upd H T o) := ⟨f.same.upd h o, f.out, fun m hm => by
  obtain ⟨u, e⟩ := f.there m hm
  exact ⟨u, same_upd h o _ _ e⟩⟩
theorem Off.grow (f : Off M G H) (s : Same H H') : Off M G H' := ⟨f.same.trans s, f.out, fun m hm => by
  obtain ⟨u, e⟩ := f.there m hm
  exact ⟨u, s _ _ e⟩⟩
theorem Off.write (f : Off M G H) (hm : m ∈ M) (o : HO) : Off M G (upd H m o) := ⟨f.same.write (f.out m hm) o, f.out, fun k hk => by
  by_cases e : k = m
  · subst e
    exact ⟨o, upd_same⟩
  · obtain ⟨u, e'⟩ := f.there k hk
    exact ⟨u, by rw [upd_ne e]; exact e'⟩⟩
theorem Off.sb (f : Off M G H) (hm : m ∈ M) (s : SameB m H H') (e : H' m = some o) : Off M G H' := ⟨s.same f.same (f.out m hm), f.out, fun k hk => by
  by_cases ek : k = m
  · subst ek
    exact ⟨o, e⟩
  · obtain ⟨u, e'⟩ := f.there k hk
    exact ⟨u, s k u ek e'⟩⟩
theorem Off.drop (f : Off (m :: M) G H) : Off M G H := ⟨f.same, fun k hk => f.out k (.tail _ hk), fun k hk => f.there k (.tail _ hk)⟩
theorem Off.take {a : Addr} (f : Off M G H) (e : H a = some o) (hn : a ∉ M) : Off M (upd G a o) H ∧ Same G (upd G a o) := by
  refine ⟨⟨fun b v q => ?_, fun k hk => ?_, f.there⟩, fun b v q => ?_⟩
  · by_cases eb : b = a
    · subst eb
      rw [upd_same] at q
      rw [e]
      exact q
    · rw [upd_ne eb] at q
      exact f.same b v q
  · have : k ≠ a := fun z => hn (z ▸ hk)
    rw [upd_ne this]
    exact f.out k hk
  · by_cases eb : b = a
    · subst eb
      have := f.same _ _ q
      rw [e] at this
      rw [upd_same]
      exact this
    · rw [upd_ne eb]
      exact q
theorem Off.join (f : Off M G1 H) (g : Off M G2 H) : ∃ G, Off M G H ∧ Same G1 G ∧ Same G2 G := by
  refine ⟨fun b => match G1 b with | some o => some o | none => G2 b, ⟨fun b v q => ?_, fun m hm => ?_, f.there⟩, fun b v q => ?_, fun b v q => ?_⟩
  · cases e : G1 b with
    | some o => simp only [e] at q; rw [← q]; exact f.same b o e
    | none => simp only [e] at q; exact g.same b v q
  · simp only [f.out m hm]
    exact g.out m hm
  · simp only [q]
  · cases e : G1 b with
    | some o =>
      have := f.same b o e
      rw [g.same b v q] at this
      simp only [e]
      exact this.symm
    | none => simp only [e]; exact q
theorem Off.start {p : Addr} (h : H p = none) (o : HO) : Off [p] H (upd H p o) := ⟨same_upd h o, fun m hm => by rw [List.mem_singleton.mp hm]; exact h, fun m hm => by rw [List.mem_singleton.mp hm]; exact ⟨o, upd_same⟩⟩
theorem SameB.new {p : Addr} (a : SameB p H H') (h : H' T = none) (o : HO) : SameB p H (L2.upd H' T o) := a.trans ((same_upd h o).b p)
theorem SameB.free {p : Addr} (a : SameB p H H') (h : H' T = none) (hp : T ≠ p) : H T = none := by
  cases e : H T with
  | none => rfl
  | some u => rw [a T u hp e] at h; cases h
end
end L2
namespace L2
open PySem PySem.Spec PyProof.Rows
section
variable {prog : Program} {w : World} {A : Around} {E : Value → Shared → Prop} {s : Shared}
end
section
variable {prog : Program} {w : World} {A : Around} {R : Result → Shared → Prop}
end
section
variable {prog : Program} {w : World} {A : Around} {E : Value → Shared → Prop} {s : Shared}
end
section
variable {X : Cx}
end
end L2
namespace L2
open PySem PySem.Spec PyProof.Rows
section
variable {X : Cx} {e k : Expr} {te tk : TE} {pos p2 : Pos}
end
end L2
namespace L2
open PySem PySem.Spec PyProof.Rows
section
variable {prog : Program} {w : World} {A : Around} {E : Value → Shared → Prop} {s : Shared}
end
section
variable {X : Cx} {pos : Pos}
end
end L2
namespace L2
open PySem PySem.Spec PyProof.Rows
section
variable {X : Cx}
end
end L2
namespace L2
open PySem PySem.Spec PyProof.Rows
noncomputable def TabK (K : PySem.W.Frag) (a : Addr) (D : List (Str × KTD.Dat)) : Prop := KTD.tabLook (KTD.datLooks fun b => K.lookup b) (fun b => K.lookup b) a D = true
section
variable {prog : Program} {w : World} {A : Around} {E : Value → Shared → Prop} {s : Shared}
end
section
variable {X : Cx}
theorem TabK.at {pins : List (Addr × Obj)} {σ : St} {H : Hp} {s : Shared} {a : Addr} {D : List (Str × KTD.Dat)} (I : Inv X pins σ H s) (h : TabK X.K a D) : KTD.TabOf (fun d v => KTD.datLooks (fun b => X.K.lookup b) d v = true) s.heap a D :=
  KTD.tab_of_look (fun _ _ z => z) (fun b o q => I.kIn b o q) h
theorem TabK.here {pins : List (Addr × Obj)} {σ : St} {H : Hp} {s : Shared} {a : Addr} {D : List (Str × KTD.Dat)} (I : Inv X pins σ H s) (h : TabK X.K a D) : KTD.Here s.heap s.heap a D :=
  ⟨PySem.W.kt_text_in I.kIn h, fun _ _ q => q⟩
end
end L2
namespace My
open PySem L2
open PySem.W (Dat kqdP kqdPs kqdOk)

structure Works where
  ins : Int
  gates : List (Str × List Int)
  outs : List Int
noncomputable def legsOk (kind : Str) (n : Nat) : Prop := ((kind = "and" ∨ kind = "or" ∨ kind = "odd") ∧ 2 ≤ n ∧ n ≤ 4) ∨ (kind = "not" ∧ n = 1) ∨ (kind = "choose" ∧ n = 3) ∨ ((kind = "zero" ∨ kind = "one") ∧ n = 0)
structure WF (most : Nat) (w : Works) : Prop where
  i1 : 1 ≤ w.ins
  i6 : w.ins ≤ 6
  few : w.gates.length ≤ most
  legs : ∀ (k : Nat) g, w.gates[k]? = some g → legsOk g.1 g.2.length ∧ ∀ l ∈ g.2, 0 ≤ l ∧ l < w.ins + k
  o1 : 1 ≤ w.outs.length
  o3 : w.outs.length ≤ most + 20
  outs : ∀ o ∈ w.outs, 0 ≤ o ∧ o < w.ins + w.gates.length
noncomputable def gateD (g : Str × List Int) : Dat := .tuple [.str g.1, .tuple (g.2.map .int)]
end My
namespace My
open PySem L2
noncomputable def Bits (ns : List Int) : Prop := ∀ n ∈ ns, n = 0 ∨ n = 1
noncomputable def gateV (x : Str) (ns : List Int) : Int :=
  if x = "and" then (if ns.all (· == 1) = true then 1 else 0)
  else if x = "or" then (if ns.any (· == 1) = true then 1 else 0)
  else if x = "odd" then ns.sum % 2
  else if x = "not" then 1 - ns.getD 0 0
  else if x = "choose" then (if ns.getD 0 0 = 1 then ns.getD 1 0 else ns.getD 2 0)
  else if x = "one" then 1 else 0
theorem n_da : ("odd" : Str) ≠ "and" := by decide +kernel
theorem n_do : ("odd" : Str) ≠ "or" := by decide +kernel
theorem n_na : ("not" : Str) ≠ "and" := by decide +kernel
theorem n_no : ("not" : Str) ≠ "or" := by decide +kernel
theorem n_nd : ("not" : Str) ≠ "odd" := by decide +kernel
theorem gv_odd (ns : List Int) : gateV "odd" ns = ns.sum % 2 := by unfold gateV; rw [if_neg n_da, if_neg n_do, if_pos rfl]
theorem gv_not (ns : List Int) : gateV "not" ns = 1 - ns.getD 0 0 := by unfold gateV; rw [if_neg n_na, if_neg n_no, if_neg n_nd, if_pos rfl]
noncomputable def wiresV (gs : List (Str × List Int)) (row : List Int) : Nat → List Int
  | 0 => row
  | n + 1 => wiresV gs row n ++ [match gs[n]? with
      | some g => gateV g.1 (g.2.map fun l => (wiresV gs row n).getD l.toNat 0)
      | none => 0]
theorem wiresV_len (gs : List (Str × List Int)) (row : List Int) : ∀ n, (wiresV gs row n).length = row.length + n
  | 0 => rfl
  | n + 1 => by rw [wiresV, List.length_append, wiresV_len gs row n]; simp; omega
end My
namespace My
open PySem L2
open PySem.W (Dat kqdP kqdPs kqdOk)
theorem WF.mono {m n : Nat} {w : Works} (h : WF m w) (l : m ≤ n) : WF n w := ⟨h.i1, h.i6, Nat.le_trans h.few l, h.legs, h.o1, Nat.le_trans h.o3 (by omega), h.outs⟩
noncomputable def rowD (r : List Int) : Dat := .list (r.map .int)
inductive At (H : Hp) : List Addr → List (List Int) → Prop
  | nil : At H [] []
  | cons {q : Addr} {r : List Int} {qs : List Addr} {rs : List (List Int)} : H q = some (.lst (r.map V.int)) → At H qs rs → At H (q :: qs) (r :: rs)
section
variable {K : PySem.W.Frag} {H H' : Hp} {qs qs' : List Addr} {rs rs' : List (List Int)}
theorem At.mono (s : Same H H') (h : At H qs rs) : At H' qs rs := by
  induction h with
  | nil => exact .nil
  | cons e _ ih => exact .cons (s _ _ e) ih
theorem At.append (h : At H qs rs) (h' : At H qs' rs') : At H (qs ++ qs') (rs ++ rs') := by
  induction h with
  | nil => exact h'
  | cons e _ ih => exact .cons e ih
theorem At.len (h : At H qs rs) : qs.length = rs.length := by
  induction h with
  | nil => rfl
  | cons e _ ih => rw [List.length_cons, List.length_cons, ih]
theorem At.get (h : At H qs rs) : ∀ {i : Nat} {q : Addr}, qs[i]? = some q → ∃ r, rs[i]? = some r ∧ H q = some (.lst (r.map V.int)) := by
  induction h with
  | nil => intro i q e; cases e
  | cons e _ ih =>
    intro i q z
    cases i with
    | zero => cases z; exact ⟨_, rfl, e⟩
    | succ i => exact ih z
theorem At.here (h : At H qs rs) {q : Addr} (m : q ∈ qs) : ∃ r ∈ rs, H q = some (.lst (r.map V.int)) := by
  obtain ⟨i, hi⟩ := List.getElem?_of_mem m
  obtain ⟨r, a, b⟩ := h.get hi
  exact ⟨r, List.mem_of_getElem? a, b⟩
theorem At.reps (h : At H qs rs) : Reps K H (qs.map V.ref) (rs.map rowD) := by
  induction h with
  | nil => exact .nil
  | cons e _ ih => exact .cons (.lst (.of e) (Reps.ints _)) ih
theorem At.write {p : Addr} {o : HO} (n : p ∉ qs) (h : At H qs rs) : At (upd H p o) qs rs := by
  induction h with
  | nil => exact .nil
  | cons e _ ih =>
    refine .cons ?_ (ih fun z => n (.tail _ z))
    rename_i q0 _ _ _ _
    have hne : q0 ≠ p := fun z => n (by rw [z]; exact .head _)
    rw [upd_ne hne]
    exact e
theorem At.set {r : List Int} (h : At H qs rs) : ∀ {i : Nat} {q : Addr}, qs.Nodup → qs[i]? = some q → At (upd H q (.lst (r.map V.int))) qs (rs.set i r) := by
  induction h with
  | nil => intro i q _ e; cases e
  | @cons q' r' qs' rs' e t ih =>
    intro i q nd z
    have nd' := List.nodup_cons.mp nd
    cases i with
    | zero =>
      cases z
      exact .cons upd_same (t.write nd'.1)
    | succ i =>
      refine .cons ?_ (ih nd'.2 z)
      have hne : q' ≠ q := fun y => nd'.1 (by rw [y]; exact List.mem_of_getElem? z)
      rw [upd_ne hne]
      exact e
end
structure Rows (H0 : Hp) (R : Addr) (qs : List Addr) (rs : List (List Int)) (H : Hp) : Prop where
  same : Same H0 H
  out : H0 R = none
  at_ : H R = some (.lst (qs.map V.ref))
  rows : At H qs rs
  nd : qs.Nodup
  new : ∀ q ∈ qs, H0 q = none ∧ q ≠ R
section
variable {K : PySem.W.Frag} {H0 H H1 H2 : Hp} {R D D1 D2 T q : Addr} {qs qs1 qs2 : List Addr} {rs rs1 rs2 : List (List Int)}
theorem Rows.start (s : Same H0 H) (h : H D = none) : Rows H0 D [] [] (upd H D (.lst [])) := ⟨s.upd h _, s.free h, upd_same, .nil, .nil, fun _ z => nomatch z⟩
theorem Rows.sq (b : Rows H0 R qs rs H) : SqL K H R (qs.map V.ref) := .of b.at_
theorem Rows.rep (b : Rows H0 R qs rs H) : Rep K H (.ref R) (.list (rs.map rowD)) := .lst b.sq b.rows.reps
theorem Rows.grow (b : Rows H0 R qs rs H) (s : Same H H1) : Rows H0 R qs rs H1 := ⟨b.same.trans s, b.out, s _ _ b.at_, b.rows.mono s, b.nd, b.new⟩
theorem Rows.push {o : HO} {r : List Int} {vs : List V} (b : Rows H0 D qs rs H) (hT : H T = none) (hq : upd H T o q = none) (e : vs = r.map V.int) :
    Rows H0 D (qs ++ [q]) (rs ++ [r]) (upd (upd (upd H T o) q (.lst vs)) D (.lst (qs.map V.ref ++ [.ref q]))) := by
  subst e
  have s1 : Same H (upd (upd H T o) q (.lst (r.map V.int))) := (same_upd hT _).upd hq _
  have q0 : H q = none := (same_upd hT o).free hq
  have qD : q ≠ D := Ne.symm (ne_of_none b.at_ q0)
  have nq : q ∉ qs := fun z => by
    obtain ⟨r, _, e⟩ := b.rows.here z
    rw [q0] at e
    cases e
  refine ⟨(b.same.trans s1).write b.out _, b.out, by rw [upd_same, List.map_append]; rfl, ?_, ?_, fun z hz => ?_⟩
  · refine At.write (fun z => ?_) (At.append (b.rows.mono s1) (.cons upd_same .nil))
    rcases List.mem_append.mp z with z | z
    · exact (b.new D z).2 rfl
    · exact qD (List.mem_singleton.mp z).symm
  · refine List.nodup_append.mpr ⟨b.nd, List.nodup_cons.mpr ⟨(fun z => nomatch z), List.nodup_nil⟩, fun x hx y hy e => ?_⟩
    rw [List.mem_singleton.mp hy] at e
    exact nq (e ▸ hx)
  · rcases List.mem_append.mp hz with hz | hz
    · exact b.new z hz
    · rw [List.mem_singleton.mp hz]
      exact ⟨b.same.free q0, qD⟩
end
end My
namespace My
open PySem L2
open PySem.W (Dat kqdP kqdPs kqdOk)
end My
namespace My
open PySem L2
open PySem.W (Dat kqdP kqdPs kqdOk)
structure Flt where
  place : List Key
  worth : Int
noncomputable def kD : Key → Dat
  | .inl n => .int n
  | .inr s => .str s
noncomputable def fltD (f : Flt) : Dat := .tuple (f.place.map kD ++ [.int f.worth])
noncomputable def wireK (i : Int) : List Key := [Sum.inr "wire", Sum.inl i]
noncomputable def legK (k i : Int) : List Key := [Sum.inr "leg", Sum.inl k, Sum.inl i]
noncomputable def wiresK : Nat → List (List Key)
  | 0 => []
  | n + 1 => wiresK n ++ [wireK n]
noncomputable def legsK (k : Int) : Nat → List (List Key)
  | 0 => []
  | n + 1 => legsK k n ++ [legK k n]
noncomputable def gatesK (gs : List (Str × List Int)) : Nat → List (List Key)
  | 0 => []
  | n + 1 => gatesK gs n ++ legsK n ((gs[n]?.map fun g => g.2.length).getD 0)
noncomputable def placesK (w : Works) : List (List Key) := wiresK (w.ins.toNat + w.gates.length) ++ gatesK w.gates w.gates.length
theorem legK_inj {k l i j : Int} (h : legK k i = legK l j) : k = l ∧ i = j := by
  unfold legK at h
  injection h with _ h
  injection h with h1 h
  injection h with h
  exact ⟨Sum.inl.inj h1, Sum.inl.inj h⟩
theorem wire_leg {i k j : Int} (h : wireK i = legK k j) : False := by
  have := congrArg List.length h
  exact absurd this (by show ¬ (2 : Nat) = 3; decide)
noncomputable def GoodF (w : Works) (f : Flt) : Prop := f.place ∈ placesK w ∧ (f.worth = 0 ∨ f.worth = 1)
noncomputable def Apart (fs : List Flt) : Prop := (fs.map (·.place)).Nodup
noncomputable def look (fs : List Flt) (p : List Key) : Option Int := (fs.find? fun f => decide (f.place = p)).map (·.worth)
noncomputable def pick (fs : List Flt) (p : List Key) (v : Int) : Int := (look fs p).getD v
noncomputable def legsS (fs : List Flt) (k : Int) (ns : List Int) : List Int := ns.mapIdx fun i v => pick fs (legK k i) v
noncomputable def rowS (fs : List Flt) (ns : List Int) : List Int := ns.mapIdx fun i v => pick fs (wireK i) v
noncomputable def wiresS (fs : List Flt) (gs : List (Str × List Int)) (row : List Int) : Nat → List Int
  | 0 => rowS fs row
  | n + 1 => wiresS fs gs row n ++ [pick fs (wireK ((row.length + n : Nat) : Int)) (match gs[n]? with
      | some g => gateV g.1 (legsS fs n (g.2.map fun l => (wiresS fs gs row n).getD l.toNat 0))
      | none => 0)]
theorem rowS_len (fs : List Flt) (ns : List Int) : (rowS fs ns).length = ns.length := by unfold rowS; rw [List.length_mapIdx]
theorem wiresS_len (fs : List Flt) (gs : List (Str × List Int)) (row : List Int) : ∀ n, (wiresS fs gs row n).length = row.length + n
  | 0 => rowS_len fs row
  | n + 1 => by rw [wiresS, List.length_append, wiresS_len fs gs row n]; simp; omega
theorem pick_nil (p : List Key) (v : Int) : pick [] p v = v := rfl
theorem rowS_nil (ns : List Int) : rowS [] ns = ns := by
  unfold rowS
  refine List.ext_getElem? fun i => ?_
  rw [List.getElem?_mapIdx]
  cases ns[i]? <;> rfl
theorem legsS_nil (k : Int) (ns : List Int) : legsS [] k ns = ns := by
  unfold legsS
  refine List.ext_getElem? fun i => ?_
  rw [List.getElem?_mapIdx]
  cases ns[i]? <;> rfl
theorem wiresS_nil (gs : List (Str × List Int)) (row : List Int) : ∀ n, wiresS [] gs row n = wiresV gs row n
  | 0 => rowS_nil row
  | n + 1 => by
    rw [wiresS, wiresV, wiresS_nil gs row n, pick_nil]
    cases gs[n]? with
    | none => rfl
    | some g => simp only [legsS_nil]
theorem at_last (xs : List V) (v : V) : atI (xs ++ [v]) (-1) = some v := by
  unfold atI ixN
  have e : ((-1 : Int) + ((xs ++ [v]).length : Nat)).toNat = xs.length := by rw [List.length_append, List.length_singleton]; omega
  rw [if_neg (by decide), if_pos (by rw [List.length_append, List.length_singleton]; omega), e]
  simp
end My
namespace My
open PySem L2
open PySem.W (Dat kqdP kqdPs kqdOk)
structure GoodFs (K : PySem.W.Frag) (w : Works) (most : Nat) (G : Hp) (v : V) (fs : List Flt) : Prop where
  rep : Rep K G v (.list (fs.map fltD))
  good : ∀ f ∈ fs, GoodF w f
  apart : Apart fs
  few : fs.length ≤ most
theorem GoodFs.mono {K : PySem.W.Frag} {w : Works} {most : Nat} {G G' : Hp} {v : V} {fs : List Flt} (h : GoodFs K w most G v fs) (s : Same G G') : GoodFs K w most G' v fs := ⟨h.rep.mono s, h.good, h.apart, h.few⟩
end My
namespace L2
end L2
namespace My
open PySem L2
open PySem.W (Dat kqdP kqdPs kqdOk)
theorem wiresS_at (fs : List Flt) (ws : List (Str × List Int)) (row : List Int) {i n : Nat} (h : i < row.length + n) : ∀ m, n ≤ m → (wiresS fs ws row m)[i]? = (wiresS fs ws row n)[i]?
  | 0, hm => by
    have : n = 0 := by omega
    subst this
    rfl
  | m + 1, hm => by
    by_cases e : n = m + 1
    · subst e
      rfl
    · rw [wiresS, List.getElem?_append_left (by rw [wiresS_len]; omega), wiresS_at fs ws row h m (by omega)]
theorem wiresS_legs {A B : List Flt} {ws : List (Str × List Int)} {row : List Int} {g : Nat} {v : Int} (h : ∀ q, (∀ p : Int, q ≠ legK g p) → look A q = look B q) (ha : look A (wireK ((row.length + g : Nat) : Int)) = some v) : ∀ n, wiresS A ws row n = wiresS B ws row n := by
  have hw : ∀ i : Int, look A (wireK i) = look B (wireK i) := fun i => h _ fun p z => wire_leg z
  have hpw : ∀ (i x : Int), pick A (wireK i) x = pick B (wireK i) x := fun i x => by unfold pick; rw [hw]
  intro n
  induction n with
  | zero =>
    show rowS A row = rowS B row
    unfold rowS
    simp only [hpw]
  | succ n ih =>
    rw [wiresS, wiresS, ih]
    by_cases e : n = g
    · subst e
      have hb := (hw ((row.length + n : Nat) : Int)).symm.trans ha
      unfold pick
      rw [ha, hb]
      rfl
    · have hl : ∀ ns, legsS A n ns = legsS B n ns := fun ns => by
        unfold legsS
        have : ∀ (i : Nat) (x : Int), pick A (legK n i) x = pick B (legK n i) x := fun i x => by
          unfold pick
          rw [h _ fun p z => e (by have := (legK_inj z).1; omega)]
        simp only [this]
      rw [hpw]
      cases ws[n]? with
      | none => rfl
      | some g' => simp only [hl]
end My
namespace My
open PySem L2
open PySem.W (Dat kqdP kqdPs kqdOk)
theorem Apart.app {a b : List Flt} (ha : Apart a) (hb : Apart b) (h : ∀ f ∈ a, ∀ g ∈ b, f.place ≠ g.place) : Apart (a ++ b) := by
  unfold Apart at ha hb ⊢
  rw [List.map_append]
  refine List.nodup_append.mpr ⟨ha, hb, fun x hx y hy e => ?_⟩
  obtain ⟨f, hf, rfl⟩ := List.mem_map.mp hx
  obtain ⟨g, hg, rfl⟩ := List.mem_map.mp hy
  exact h f hf g hg e
noncomputable def Meet (w : Works) (A B : List Flt) : Prop := A = B ∨ ∃ (g : Nat) (v : Int), (∀ q, (∀ p : Int, q ≠ legK g p) → look A q = look B q) ∧ look A (wireK ((w.ins.toNat + g : Nat) : Int)) = some v
theorem Meet.wires {w : Works} {A B : List Flt} (h : Meet w A B) {row : List Int} (hl : (row.length : Int) = w.ins) (n : Nat) : wiresS A w.gates row n = wiresS B w.gates row n := by
  rcases h with rfl | ⟨g, v, h1, h2⟩
  · rfl
  · have e : w.ins.toNat = row.length := by omega
    rw [e] at h2
    exact wiresS_legs h1 h2 n
end My
namespace My
open PySem L2
open PySem.W (Dat kqdP kqdPs kqdOk)
noncomputable abbrev Gts := List (Str × List Int)
noncomputable def wvAt (gl : Gts) (row : List Int) (i : Int) : Int := (wiresV gl row gl.length).getD i.toNat 0
noncomputable def GoodG (ins : Int) (gl : Gts) : Prop := ∀ (k : Nat) g, gl[k]? = some g → legsOk g.1 g.2.length ∧ ∀ l ∈ g.2, 0 ≤ l ∧ l < ins + k
theorem GoodG.snoc {ins : Int} {gl : Gts} {x : Str} {ls : List Int} (h : GoodG ins gl) (hk : legsOk x ls.length) (hl : ∀ l ∈ ls, 0 ≤ l ∧ l < ins + gl.length) : GoodG ins (gl ++ [(x, ls)]) := fun k g e => by
  by_cases hk' : k < gl.length
  · rw [List.getElem?_append_left hk'] at e
    exact h k g e
  · have : k < (gl ++ [(x, ls)]).length := (List.getElem?_eq_some_iff.mp e).1
    have ek : k = gl.length := by
      rw [List.length_append, List.length_singleton] at this
      omega
    subst ek
    rw [List.getElem?_append_right (Nat.le_refl _), Nat.sub_self] at e
    cases e
    exact ⟨hk, hl⟩
theorem wiresV_pre (gl ext : Gts) (row : List Int) : ∀ n, n ≤ gl.length → wiresV (gl ++ ext) row n = wiresV gl row n
  | 0, _ => rfl
  | n + 1, h => by
    rw [wiresV, wiresV, wiresV_pre gl ext row n (by omega), List.getElem?_append_left (by omega)]
theorem wiresV_at (gl : Gts) (row : List Int) {i n : Nat} (h : i < row.length + n) {m : Nat} (hm : n ≤ m) : (wiresV gl row m)[i]? = (wiresV gl row n)[i]? := by
  rw [← wiresS_nil, ← wiresS_nil]
  exact wiresS_at [] gl row h m hm
noncomputable def AtG (ins : Int) (gl : Gts) (w : Int) (x : Str) (ls : List Int) : Prop := ∃ k : Nat, w = ins + k ∧ gl[k]? = some (x, ls)
theorem AtG.last (ins : Int) (gl : Gts) (x : Str) (ls : List Int) : AtG ins (gl ++ [(x, ls)]) (ins + gl.length) x ls := ⟨gl.length, rfl, by simp⟩
theorem AtG.ext {ins : Int} {gl ext : Gts} {w : Int} {x : Str} {ls : List Int} (h : AtG ins gl w x ls) : AtG ins (gl ++ ext) w x ls := by
  obtain ⟨k, e, g⟩ := h
  exact ⟨k, e, by rw [List.getElem?_append_left (List.getElem?_eq_some_iff.mp g).1]; exact g⟩
section
variable {ins : Int} {gl : Gts} {row : List Int} {w : Int} {x : Str} {ls : List Int}
theorem AtG.val (good : GoodG ins gl) (hl : (row.length : Int) = ins) (h : AtG ins gl w x ls) : wvAt gl row w = gateV x (ls.map (wvAt gl row)) := by
  obtain ⟨k, rfl, g⟩ := h
  have hk := (List.getElem?_eq_some_iff.mp g).1
  have e1 : (ins + (k : Int)).toNat = row.length + k := by omega
  unfold wvAt
  rw [e1, List.getD_eq_getElem?_getD, wiresV_at gl row (n := k + 1) (by omega) (by omega), wiresV, List.getElem?_append_right (by rw [wiresV_len]; omega)]
  have e2 : row.length + k - (wiresV gl row k).length = 0 := by rw [wiresV_len]; omega
  rw [e2, g]
  show gateV x (ls.map fun l => (wiresV gl row k).getD l.toNat 0) = _
  congr 1
  refine List.map_congr_left fun l hm => ?_
  have b := (good k (x, ls) g).2 l hm
  rw [List.getD_eq_getElem?_getD, List.getD_eq_getElem?_getD, wiresV_at gl row (n := k) (m := gl.length) (by omega) (by omega)]
theorem AtG.lt (h : AtG ins gl w x ls) : w < ins + gl.length := by
  obtain ⟨k, rfl, g⟩ := h
  have := (List.getElem?_eq_some_iff.mp g).1
  omega
end
theorem gv_not1 (v : Int) : gateV "not" [v] = 1 - v := by rw [gv_not]; rfl
noncomputable def notsW (n0 : Int) (n : Nat) : List Int := (List.range n).map fun (t : Nat) => n0 + (t : Int)
theorem notsW_len (n0 : Int) (n : Nat) : (notsW n0 n).length = n := by unfold notsW; simp
theorem notsW_get {n0 : Int} {n t : Nat} (h : t < n) : (notsW n0 n)[t]? = some (n0 + (t : Int)) := by
  unfold notsW
  rw [List.getElem?_map, List.getElem?_range h]
  rfl
noncomputable def NotsAt (ins : Int) (gl : Gts) (n0 : Int) (ss : List Int) : Prop := ∀ (t : Nat) (s : Int), ss[t]? = some s → AtG ins gl (n0 + t) "not" [s]
theorem NotsAt.ext {ins n0 : Int} {gl ext : Gts} {ss : List Int} (h : NotsAt ins gl n0 ss) : NotsAt ins (gl ++ ext) n0 ss := fun t s e => (h t s e).ext
theorem NotsAt.vals {ins n0 : Int} {gl : Gts} {ss row : List Int} (h : NotsAt ins gl n0 ss) (good : GoodG ins gl) (hl : (row.length : Int) = ins) : (notsW n0 ss.length).map (wvAt gl row) = (ss.map (wvAt gl row)).map fun v => 1 - v := by
  refine List.ext_getElem? fun t => ?_
  by_cases ht : t < ss.length
  · rw [List.getElem?_map, notsW_get ht, List.getElem?_map, List.getElem?_map, List.getElem?_eq_getElem ht]
    show some (wvAt gl row (n0 + t)) = some (1 - wvAt gl row ss[t])
    rw [(h t _ (List.getElem?_eq_getElem ht)).val good hl]
    show some (gateV "not" [wvAt gl row ss[t]]) = _
    rw [gv_not1]
  · rw [List.getElem?_eq_none (by rw [List.length_map, notsW_len]; omega), List.getElem?_eq_none (by rw [List.length_map, List.length_map]; omega)]
section
variable {ins n0 : Int} {gl : Gts} {ss : List Int} {one other b l r : Int}
noncomputable def OddAt (ins : Int) (gl : Gts) (ss : List Int) (j : Nat) (st : Int) : Prop := 0 ≤ st ∧ st < ins + gl.length ∧ ∀ row : List Int, (row.length : Int) = ins → Bits row → wvAt gl row st = ((ss.take j).map (wvAt gl row)).sum % 2
end
theorem val_ext {ins : Int} {gl ext : Gts} {row : List Int} {w : Int} (hl : (row.length : Int) = ins) (h0 : 0 ≤ w) (h1 : w < ins + gl.length) : wvAt (gl ++ ext) row w = wvAt gl row w := by
  unfold wvAt
  rw [List.getD_eq_getElem?_getD, List.getD_eq_getElem?_getD, wiresV_at (gl ++ ext) row (n := gl.length) (by omega) (by rw [List.length_append]; omega), wiresV_pre gl ext row gl.length (Nat.le_refl _)]
theorem OddAt.step {ins : Int} {gl : Gts} {ss : List Int} {j : Nat} {st s : Int} (good : GoodG ins gl) (i0 : 0 ≤ ins) (hs : ∀ s ∈ ss, 0 ≤ s ∧ s < ins + gl.length) (h : OddAt ins gl ss j st) (e : ss[j]? = some s) : OddAt ins (gl ++ [(("odd" : Str), [st, s])]) ss (j + 1) (ins + gl.length) := by
  have bs := hs s (List.mem_of_getElem? e)
  obtain ⟨h0, h1, h2⟩ := h
  have good' : GoodG ins (gl ++ [(("odd" : Str), [st, s])]) := good.snoc (.inl ⟨.inr (.inr rfl), (by show 2 ≤ 2; decide), (by show 2 ≤ 4; decide)⟩) fun l hl => by
    rcases List.mem_cons.mp hl with rfl | hl
    · exact ⟨h0, h1⟩
    · rw [List.mem_singleton.mp hl]; exact bs
  refine ⟨by omega, by rw [List.length_append, List.length_singleton]; omega, fun row hl br => ?_⟩
  rw [(AtG.last ins gl "odd" [st, s]).val good' hl]
  simp only [List.map_cons, List.map_nil]
  rw [gv_odd, val_ext hl h0 h1, val_ext hl bs.1 bs.2, h2 row hl br, List.take_add_one, e, List.map_append, List.sum_append]
  have e2 : (ss.take j).map (wvAt (gl ++ [(("odd" : Str), [st, s])]) row) = (ss.take j).map (wvAt gl row) := List.map_congr_left fun z hz => by
    have := hs z (List.mem_of_mem_take hz)
    exact val_ext hl this.1 this.2
  rw [e2]
  show ([((ss.take j).map (wvAt gl row)).sum % 2, wvAt gl row s].sum) % 2 = (((ss.take j).map (wvAt gl row)).sum + [wvAt (gl ++ [(("odd" : Str), [st, s])]) row s].sum) % 2
  rw [val_ext hl bs.1 bs.2]
  simp only [List.sum_cons, List.sum_nil]
  omega
structure GL (K : PySem.W.Frag) (M : List Addr) (m : Addr) (ins : Int) (gl : Gts) (G H : Hp) : Prop where
  off : Off (m :: M) G H
  at_ : ∃ gs, H m = some (.lst gs) ∧ Reps K G gs (gl.map gateD)
  good : GoodG ins gl
section
variable {K : PySem.W.Frag} {M : List Addr} {m D T : Addr} {ins : Int} {gl : Gts} {G H : Hp} {o : HO}
theorem GL.new (g : GL K M m ins gl G H) (h : H T = none) (o : HO) : GL K M m ins gl G (upd H T o) := by
  obtain ⟨gs, e, r⟩ := g.at_
  exact ⟨g.off.new h o, ⟨gs, same_upd h o _ _ e, r⟩, g.good⟩
theorem GL.write (g : GL K M m ins gl G H) (h : D ∈ M) (hm : D ≠ m) (o : HO) : GL K M m ins gl G (upd H D o) := by
  obtain ⟨gs, e, r⟩ := g.at_
  exact ⟨g.off.write (.tail _ h) o, ⟨gs, by rw [upd_ne (Ne.symm hm)]; exact e, r⟩, g.good⟩
end
end My
namespace My
open PySem L2
end My
namespace My
open PySem L2
open PySem.W (Dat kqdP kqdPs kqdOk)
noncomputable def sh (W l : Int) : Int := l + (if W ≤ l then 1 else 0)
noncomputable def turned (W : Int) (g p n : Nat) (ls : List Int) : List Int := if n = g then (ls.map (sh W)).set p W else ls.map (sh W)
end My
namespace L2
theorem Reps.take {K : PySem.W.Frag} {H : Hp} : ∀ {vs : List V} {ds : List PySem.W.Dat} (n : Nat), Reps K H vs ds → Reps K H (vs.take n) (ds.take n)
  | _, _, 0, _ => .nil
  | _, _, _ + 1, .nil => .nil
  | _, _, n + 1, .cons h r => .cons h (Reps.take n r)
theorem Reps.drop {K : PySem.W.Frag} {H : Hp} : ∀ {vs : List V} {ds : List PySem.W.Dat} (n : Nat), Reps K H vs ds → Reps K H (vs.drop n) (ds.drop n)
  | _, _, 0, r => r
  | _, _, _ + 1, .nil => .nil
  | _, _, n + 1, .cons _ r => Reps.drop n r
end L2
namespace L2
open PySem PySem.Spec PyProof.Rows
theorem heap_without (h : Heap) : ∀ fs : List Addr, ∃ B : Heap, ∀ b, (b ∈ fs → B.get? b = none) ∧ (b ∉ fs → B.get? b = h.get? b)
  | [] => ⟨h, fun b => ⟨(fun z => (nomatch z)), fun _ => rfl⟩⟩
  | a :: r => by
    obtain ⟨B, hB⟩ := heap_without h r
    refine ⟨B.update a fun o => { o with data := .freed }, fun b => ⟨fun z => ?_, fun z => ?_⟩⟩
    · by_cases e : b = a
      · subst e
        obtain ⟨objs, l⟩ := B
        unfold Heap.update Heap.get?
        rw [Array.getElem?_modify, if_pos rfl]
        cases objs[b]? <;> rfl
      · rw [Heap.get?_update_other _ _ (Ne.symm e)]
        exact (hB b).1 ((List.mem_cons.mp z).resolve_left e)
    · have e : b ≠ a := fun q => z (q ▸ .head _)
      rw [Heap.get?_update_other _ _ (Ne.symm e)]
      exact (hB b).2 fun q => z (.tail _ q)
theorem funFrames_of {h h' base base' : Heap} : ∀ {l : List Env}, h.FunFrames base l → (∀ b ∈ frs l, ∀ o, h.get? b = some o → ∃ sl, h'.get? b = some { o with slots := sl }) → (∀ b ∈ frs l, base'.get? b = none) → h'.FunFrames base' l
  | [], _, _, _ => trivial
  | env :: r, hl, k, kb => by
    obtain ⟨hk, ⟨L, o, hf, hn, ho, hd⟩, hr⟩ := hl
    have hm : ∀ b, b ∈ frs r → b ∈ frs (env :: r) := fun b z => by
      unfold frs at z ⊢
      rw [List.filterMap_cons, hf]
      exact .tail _ z
    have hL : L ∈ frs (env :: r) := by
      unfold frs
      rw [List.filterMap_cons, hf]
      exact .head _
    obtain ⟨sl, hs⟩ := k L hL o ho
    exact ⟨hk, ⟨L, _, hf, kb L hL, hs, hd⟩, funFrames_of hr (fun b z => k b (hm b z)) fun b z => kb b (hm b z)⟩
structure Air (C : Value) (h0 : Heap) (x : Addr) (H' : Hp) (h : Heap) : Prop where
  newx : h0.get? x = none
  hx : H' x = none
  tr : ∃ T a0 oe vs oT ts, h.get? x = some oe ∧ (oe.cls = C ∧ vs[0]? = some a0) ∧ oe.data = .fields vs ∧ vs[1]? = some (.ref T) ∧ h0.get? T = none ∧ H' T = none ∧ T ≠ x ∧ h.get? T = some oT ∧ oT.data = .fields ts ∧ ts[3]? = some .none
noncomputable def CXC (P : Program) (w : World) (C : Value) : CXT := fun outer H s E e s' => ∃ x H', e = .ref x ∧ s'.os = s.os ∧ AllBare s'.gens ∧ Un (frs outer) [] H H' s.heap s'.heap ∧ HOk P w H' s'.heap ∧ Air C s.heap x H' s'.heap ∧ E e (some x) H'
theorem ObjOk.there {P : Program} {w : World} {H : Hp} {h : Heap} {a : Addr} {o : HO} (x : ObjOk P w H h a o) : ∃ ob, h.get? a = some ob := by
  cases o with
  | lst xs => obtain ⟨_, _, _, _, e⟩ := x; exact ⟨_, e⟩
  | tup xs => obtain ⟨_, _, _, ob, e, _⟩ := x; exact ⟨_, e⟩
  | dK kvs => obtain ⟨_, _, _, _, o, _, _, e, _⟩ := x; exact ⟨_, e⟩
  | dT kvs => obtain ⟨_, _, _, _, o, _, _, e, _⟩ := x; exact ⟨_, e⟩
  | set S n => obtain ⟨o, _, _, _, e, _⟩ := x; exact ⟨_, e⟩
  | ins C dx fs => obtain ⟨_, _, _, e, _⟩ := x; exact ⟨_, e⟩
  | own y => obtain ⟨_, e⟩ := x; exact ⟨_, e⟩
  | xd fs => obtain ⟨_, ⟨_, _, _, e, _⟩, _⟩ := x; exact ⟨_, e⟩
  | rng lo hi => obtain ⟨_, _, _, e⟩ := x; exact ⟨_, e⟩
  | frz ob u => obtain ⟨e, _⟩ := x; exact ⟨_, e⟩
  | tbl ps => exact ⟨_, x⟩
  | met f y => exact ⟨_, x⟩
  | ext φ => obtain ⟨_, ⟨_, e⟩, _⟩ := x; exact ⟨_, e⟩
theorem Un.left {fs : List Addr} {H H' : Hp} {h h' h'' : Heap} {x T : Addr} (u : Un fs [] H H' h h') (nx : h.get? x = none) (nT : h.get? T = none) (k : ∀ b o, b ∉ fs → b ≠ x → b ≠ T → h'.get? b = some o → h''.get? b = some o)
    (ks : ∀ b o, b ∈ fs → h'.get? b = some o → ∃ sl, h''.get? b = some { o with slots := sl }) : Un fs [] H H' h h'' := by
  have nn : ∀ {b o}, h.get? b = some o → b ≠ x ∧ b ≠ T := fun {b o} e => ⟨(fun z => by rw [z, nx] at e; cases e), (fun z => by rw [z, nT] at e; cases e)⟩
  refine ⟨fun b o e n hb hx => k b o hb (nn e).1 (nn e).2 (u.keep b o e n hb hx), fun b o e n hb hx => ?_, u.free, fun b o e hx => ?_, u.tups, u.frzs, u.tbls⟩
  · obtain ⟨sl, q⟩ := u.slot b o e n hb hx
    obtain ⟨sl', q'⟩ := ks b _ hb q
    exact ⟨sl', q'⟩
  · obtain ⟨o', q⟩ := u.there b o e hx
    by_cases hb : b ∈ fs
    · obtain ⟨sl, q'⟩ := ks b o' hb q
      exact ⟨_, q'⟩
    · exact ⟨o', k b o' hb (nn e).1 (nn e).2 q⟩
theorem HOk.left {P : Program} {w : World} {fs : List Addr} {H' : Hp} {h' h'' : Heap} {x T : Addr} (ok : HOk P w H' h') (nf : ∀ b ∈ fs, H' b = none) (nx : H' x = none) (nT : H' T = none) (k : ∀ b o, b ∉ fs → b ≠ x → b ≠ T → h'.get? b = some o → h''.get? b = some o) : HOk P w H' h'' := fun a o e => by
  have key : ∀ b u, H' b = some u → ∀ q, h'.get? b = some q → h''.get? b = some q := fun b u e q eq => k b q (fun z => by rw [nf b z] at e; cases e) (fun z => by rw [z, nx] at e; cases e) (fun z => by rw [z, nT] at e; cases e) eq
  refine (ok a o e).stay (fun b u hb q => ?_) (fun _ q => q) fun _ _ q => q
  rcases hb with rfl | hb
  · exact key _ _ e u q
  · exact key _ _ hb u q
section
variable {P : Program} {w : World} {C : Value} {M : Model} {A : Around} {env : Env} {outer : List Env} {L : Addr} {H : Hp} {s s' : Shared} {E : XK} {e : Value} {base : Heap} {E1 : Value → Shared → Prop}
theorem leave_next (hfr : A.frames = some (env :: outer)) (hf : env.frame = some L) (fun0 : s.heap.FunFrames base (env :: outer)) (frf : ∀ b ∈ frs (env :: outer), H b = none) (cx : CXC P w C (env :: outer) H s E e s') :
    wpAny M A (leaving env e) (fun _ s'' => CXC P w C (env :: outer) H s E e s'') E1 s' := by
  obtain ⟨x, H', rfl, hos, hb, un, ok, ⟨newx, hx, T, a0, oe, vs, oT, ts, ex, ec, ed, e1, nT, hT, Tx, eT, edT, e3⟩, q⟩ := cx
  obtain ⟨B, hB⟩ := heap_without s'.heap (x :: T :: frs (env :: outer))
  have fr0 : ∀ b ∈ frs (env :: outer), ∃ o, s.heap.get? b = some o ∧ ∀ vs, o.data ≠ .fields vs := fun b z => (fun0.mem z).2
  have frs' : ∀ b ∈ frs (env :: outer), H' b = none := fun b z => by
    obtain ⟨o, ho, _⟩ := fr0 b z
    exact un.free b o ho (frf b z) (by simp)
  have fl : s'.heap.FunFrames B (env :: outer) := funFrames_of fun0 (fun b z o ho => un.slot b o ho (frf b z) z (by simp)) fun b z => (hB b).1 (.tail _ (.tail _ z))
  have st : B.StaysIn s'.heap := fun b o hb => by
    by_cases z : b ∈ x :: T :: frs (env :: outer)
    · rw [(hB b).1 z] at hb; cases hb
    · rw [(hB b).2 z] at hb; exact hb
  refine wpAny_leaving_nextW (base := B) (cls := C) (a0 := a0) hfr fl hf ⟨oe, vs, T, oT, ts, ex, ec, ed, e1, (hB T).1 (.tail _ (.head _)), Tx, eT, edT, e3⟩ st ((hB x).1 (.head _)) fun h'' hL => ?_
  obtain ⟨k1, k2, ⟨oe', vs', T', oT', ts', ex', ec', ed', e1', nT', Tx', eT', edT', e3'⟩, k4⟩ := hL
  have k : ∀ b o, b ∉ frs (env :: outer) → b ≠ x → b ≠ T → s'.heap.get? b = some o → h''.get? b = some o := fun b o n1 n2 n3 eb => k1 b o (by
    rw [(hB b).2 fun z => by
      rcases List.mem_cons.mp z with z | z
      · exact n2 z
      · rcases List.mem_cons.mp z with z | z
        · exact n3 z
        · exact n1 z]
    exact eb)
  have ks : ∀ b o, b ∈ frs (env :: outer) → s'.heap.get? b = some o → ∃ sl, h''.get? b = some { o with slots := sl } := fun b o z eb => k4 b o eb (by
    obtain ⟨_, o2, h2, h3⟩ := fl.mem z
    rw [eb] at h2
    cases h2
    exact h3)
  have Tf : T' ∉ frs (env :: outer) := fun z => by
    obtain ⟨_, o2, h2, h3⟩ := k2.mem z
    rw [eT'] at h2
    cases h2
    exact h3 _ edT'
  have gT : s'.heap.get? T' = none ∨ T' = T := by
    by_cases z : T' = T
    · exact .inr z
    · refine .inl ?_
      rw [← (hB T').2 fun y => ?_]
      · exact nT'
      · rcases List.mem_cons.mp y with y | y
        · exact Tx' y
        · rcases List.mem_cons.mp y with y | y
          · exact z y
          · exact Tf y
  have n0 : s.heap.get? T' = none := by
    rcases gT with g | rfl
    · cases z : s.heap.get? T' with
      | none => rfl
      | some o =>
        obtain ⟨o', y⟩ := un.there T' o z (by simp)
        rw [g] at y
        cases y
    · exact nT
  have n1 : H' T' = none := by
    rcases gT with g | rfl
    · cases z : H' T' with
      | none => rfl
      | some o =>
        obtain ⟨ob, y⟩ := (ok T' o z).there
        rw [g] at y
        cases y
    · exact hT
  exact ⟨x, H', rfl, hos, hb, un.left newx nT k ks, ok.left frs' hx hT k, ⟨newx, hx, T', a0, oe', vs', oT', ts', ex', ec', ed', e1', n0, n1, Tx', eT', edT', e3'⟩, q⟩
end
theorem CXC.up {X : Cx} {pins : List (Addr × Obj)} {σ : St} {H : Hp} {s s' : Shared} {C : Value} {E : XK} {e : Value} (I : Inv X pins σ H s) (hx : X.ex = []) (cx : CXC X.prog X.w C X.stack H s E e s') : CXC X.prog X.w C X.outer X.H₀ X.s₀ E e s' := by
  obtain ⟨x, H', rfl, hos, hb, un, ok, ⟨newx, hx', T, a0, oe, vs, oT, ts, ex, ec, ed, e1, nT, hT, Tx, eT, edT, e3⟩, q⟩ := cx
  have J := I.call' hos un ok hb (fun b z => absurd z (by simp))
  have nn : ∀ {b : Addr}, s.heap.get? b = none → X.s₀.heap.get? b = none := fun {b} z => by
    cases y : X.s₀.heap.get? b with
    | none => rfl
    | some o =>
      obtain ⟨o', y'⟩ := I.base.there b o y (by rw [hx]; simp)
      rw [z] at y'
      cases y'
  have jb := J.base
  rw [hx] at jb
  exact ⟨x, H', rfl, J.os, J.bare, jb, J.hok, ⟨nn newx, hx', T, a0, oe, vs, oT, ts, ex, ec, ed, e1, nn nT, hT, Tx, eT, edT, e3⟩, q⟩
theorem get_none_free {P : Program} {w : World} {H : Hp} {h : Heap} (ok : HOk P w H h) {a : Addr} (e : h.get? a = none) : H a = none := by
  cases z : H a with
  | none => rfl
  | some o =>
    obtain ⟨ob, y⟩ := (ok a o z).there
    rw [e] at y
    cases y
section
variable {P : Program} {w : World} {M : Model} {A : Around} {env : Env} {outer : List Env} {L C x : Addr} {H : Hp} {s : Shared} {E : XK} {base h' : Heap} {E1 : Value → Shared → Prop} {us : List Value}
theorem leave_first (hfr : A.frames = some (env :: outer)) (hf : env.frame = some L) (fun0 : s.heap.FunFrames base (env :: outer)) (frf : ∀ b ∈ frs (env :: outer), H b = none) (ok : HOk P w H s.heap) (hg : AllBare s.gens) (mx : Heap.MadeExcOf s.heap h' x (.ref C) us) (q : E (.ref x) (some x) H) :
    wpAny M A (leaving env (.ref x)) (fun _ s'' => CXC P w (.ref C) (env :: outer) H s E (.ref x) s'') E1 { s with heap := h' } := by
  obtain ⟨keeps, newx, t, ex, nt, et⟩ := mx
  have hx : H x = none := get_none_free ok newx
  obtain ⟨B, hB⟩ := heap_without h' (x :: frs (env :: outer))
  have fl : h'.FunFrames B (env :: outer) := funFrames_of fun0 (fun b z o ho => ⟨o.slots, keeps b o ho⟩) fun b z => (hB b).1 (.tail _ z)
  have st : B.StaysIn h' := fun b o hb => by
    by_cases z : b ∈ x :: frs (env :: outer)
    · rw [(hB b).1 z] at hb; cases hb
    · rw [(hB b).2 z] at hb; exact hb
  refine wpAny_leaving_firstW (base := B) (s := { s with heap := h' }) (a0 := .ref t) hfr fl hf ex st ((hB x).1 (.head _)) rfl rfl rfl fun h'' hL => ?_
  obtain ⟨k1, k2, ⟨oe', vs', T', oT', ts', ex', ec', ed', e1', nT', Tx', eT', edT', e3'⟩, k4⟩ := hL
  have k : ∀ b o, b ∉ frs (env :: outer) → b ≠ x → b ≠ x → h'.get? b = some o → h''.get? b = some o := fun b o n1 n2 _ eb => k1 b o (by
    rw [(hB b).2 fun z => by
      rcases List.mem_cons.mp z with z | z
      · exact n2 z
      · exact n1 z]
    exact eb)
  have ks : ∀ b o, b ∈ frs (env :: outer) → h'.get? b = some o → ∃ sl, h''.get? b = some { o with slots := sl } := fun b o z eb => k4 b o eb (by
    obtain ⟨_, o2, h2, h3⟩ := fl.mem z
    rw [eb] at h2
    cases h2
    exact h3)
  have Tf : T' ∉ frs (env :: outer) := fun z => by
    obtain ⟨_, o2, h2, h3⟩ := k2.mem z
    rw [eT'] at h2
    cases h2
    exact h3 _ edT'
  have g0 : h'.get? T' = none := by
    rw [← (hB T').2 fun y => ?_]
    · exact nT'
    · rcases List.mem_cons.mp y with y | y
      · exact Tx' y
      · exact Tf y
  have n0 : s.heap.get? T' = none := by
    cases z : s.heap.get? T' with
    | none => rfl
    | some o =>
      have y := keeps _ _ z
      rw [g0] at y
      cases y
  exact ⟨x, H, rfl, rfl, hg, (Un.kept keeps).left newx newx k ks, (ok.kept keeps).left (fun b z => frf b z) hx hx k, ⟨newx, hx, T', .ref t, oe', vs', oT', ts', ex', ec', ed', e1', n0, get_none_free ok n0, Tx', eT', edT', e3'⟩, q⟩
end
theorem class_at {K : PySem.W.Frag} {h : Heap} {C : Addr} {bB : List Value} {nid : String} (X : K.In h) (q : PySem.W.excIn K C bB nid = true) :
    ∃ tl N nm qn bs hd sn sub ab col dd a0 a1 a2 a3 a5 mN, h.get? C = some (excClassObj nm qn C N bs tl hd sn sub ab col dd a0 a1 a2 a3 a5 nid) ∧ h.Ns N mN ∧ mN "__init__" = none ∧ OwnTail h bB tl := by
  unfold PySem.W.excIn at q
  split at q
  case h_2 => cases q
  case h_1 dd cd sl ho =>
    split at q
    case h_2 => cases q
    case h_1 C2 tl a0 a1 a2 a3 nn a5 hm hs =>
      simp only [Bool.and_eq_true, beq_iff_eq, Bool.not_eq_true'] at q
      obtain ⟨⟨⟨⟨⟨w1, w2⟩, w3⟩, w4⟩, w5⟩, w6⟩ := q
      subst w1 w2
      cases cd with
      | mk nm bs mro ns qn hd sn sub ab col del =>
        dsimp only at hm w3 w5 w6
        subst hm w3
        have e : sl = #[a0, a1, a2, a3, some (.builtin nn), a5] := by
          cases sl with
          | mk l => exact congrArg Array.mk hs
        subst e
        exact ⟨tl, ns, nm, qn, bs, hd, sn, sub, ab, col, dd, a0, a1, a2, a3, a5, _, X _ _ ho, Heap.Ns.of_isNs (PySem.W.isNs_of_in X w5), PySem.W.nsMap_none_of_in X w5 w6, PySem.W.tail_of_in X w4⟩
noncomputable def RaisesTo (C : Addr) (X : Cx) (E : XK) : Prop := ∀ (pins : List (Addr × Obj)) (σ : St) (H : Hp) (s : Shared) (h' : Heap) (x : Addr) (us : List Value), Inv X pins σ H s → Heap.MadeExcOf s.heap h' x (.ref C) us → E (.ref x) (some x) H → X.xe (.ref x) { s with heap := h' }
noncomputable def tRaise (E : XK) (t : TA) : TS := fun _ σ H => t σ H fun vs H1 => vs.length ≤ sizeLine ∧ ∀ x, H1 x = none → E (.ref x) (some x) H1
section
variable {X : Cx} {C : Addr} {E : XK} {B nid iid : String} {bB : List Value} {x : Str} {np cpos pos : Pos} {e : Expr} {es : List Expr} {t : TA}
theorem ps_raise (F : ExcBaseFacts B nid iid bB) (hc : PySem.W.excIn X.K C bB nid = true) (hcalm : X.calm = true) (hg : Gl X x) (hm : X.mg x = some (.ref C)) (hx : RaisesTo C X E) (ha : PA X (e :: es) t) (hdb : (x == ("__debug__" : Str)) = false := by decide)
    (he : starEach (e :: es) X.env = (false, eval e X.env) :: starEach es X.env := by rfl) (hpl : (backTo cpos (starEach es X.env)).any (·.1) = false := by rfl) : PS X (.Raise (some (.Call (.Name x np) (e :: es) [] cpos)) none pos) (tRaise E t) := by
  intro pins s σ H D I h
  obtain ⟨tl, N, nm, qn, bs, hd, sn, sub, ab, col, dd, a0, a1, a2, a3, a5, mN, oC, oN, oi, oT⟩ := class_at I.ok.mod.kin hc
  have hplain : (backTo cpos (starEach (e :: es) X.env)).any (·.1) = false := by
    rw [he]
    show (false || (backTo cpos (starEach es X.env)).any (·.1)) = false
    rw [hpl]
    rfl
  refine wpAny_Raise_call_subT (C := C) (nm := nm) (q := qn) (N := N) (bs := bs) (bm := tl) (hdct := hd) (sn := sn) (sub := sub) (ab := ab) (col := col) (dd := dd) (k0 := a0) (k1 := a1) (k2 := a2) (k3 := a3) (k5 := a5) F (mN := mN) (oT.hasType F.hasBase) (I.ok.hd hcalm) hplain oi (ld_glob I hg hm ⟨rfl, ?_⟩ hdb)
  have z := ha cpos pins s σ H _ I h
  rw [he] at z ⊢
  refine Calls.evalArgs_plain (thn z fun us s1 ⟨vs, H1, I1, r, q1, q2⟩ => ⟨rfl, by rw [← r.length]; exact q1, I1.bk _ _ oC, oN.keeps I1.bk, oT.keeps I1.bk, fun h2 x2 mx => ?_⟩)
  exact hx pins σ H1 s1 h2 x2 us I1 mx (q2 x2 (get_none_free I1.hok mx.new))
end
section
variable {P : Program} {w : World} {K : PySem.W.Frag} {mg : Str → Option Value} {base : Heap} {N : List Str} {qual : Str} {scope : Scope} {f C : Addr} {cd : Value} {A : Around} {outer : List Env} {s : Shared} {H : Hp} {E : XK}
theorem passC : Passes (CXC P w (.ref C)) (cxOf (CXC P w (.ref C)) P w K mg base N qual scope f cd A outer s H E) E := fun pins σ H1 s1 e s' I cx => by
  refine wpAny_mono (leave_next I.ok.frames rfl I.env0.funs I.stkFree cx) (fun _ s2 cx2 => ?_) fun _ _ z => z
  exact CXC.up (X := cxOf (CXC P w (.ref C)) P w K mg base N qual scope f cd A outer s H E) I rfl cx2
theorem raiseC : RaisesTo C (cxOf (CXC P w (.ref C)) P w K mg base N qual scope f cd A outer s H E) E := fun pins σ H1 s1 h' x us I mx q => by
  refine wpAny_mono (leave_first I.ok.frames rfl I.env0.funs I.stkFree I.hok I.bare mx q) (fun _ s2 cx2 => ?_) fun _ _ z => z
  exact CXC.up (X := cxOf (CXC P w (.ref C)) P w K mg base N qual scope f cd A outer s H E) I rfl cx2
end
section
variable {X : Cx}
theorem PS.nox {st : Stmt} {t : TS} (h : PS X.nox st t) : PS X st t := fun pins s σ H D I hw =>
  wpAny_mono (h pins s σ H D (I.wish _) hw) (fun _ _ q => q.unwish) fun _ _ z => z.elim
theorem PA.nox {es : List Expr} {t : TA} (h : PA X.nox es t) : PA X es t := fun pos pins s σ H Q I hw =>
  wpAny_mono (h pos pins s σ H Q (I.wish _) hw) (fun _ _ ⟨v, H', I', r, q⟩ => ⟨v, H', I'.unwish, r, q⟩) fun _ _ z => z.elim
theorem bps_raise {C : Addr} {E : XK} {B nid iid : String} {bB : List Value} {x : Str} {np cpos pos : Pos} {e : Expr} {es : List Expr} {t : TA} (F : ExcBaseFacts B nid iid bB) (hc : PySem.W.excIn X.K C bB nid = true) (hcalm : X.calm = true) (hg : Gl X x) (hm : X.mg x = some (.ref C)) (hx : RaisesTo C X E) (ha : Bx (PA X (e :: es) t)) (hdb : (x == ("__debug__" : Str)) = false := by decide)
    (he : starEach (e :: es) X.env = (false, eval e X.env) :: starEach es X.env := by rfl) (hpl : (backTo cpos (starEach es X.env)).any (·.1) = false := by rfl) : Bx (PS X (.Raise (some (.Call (.Name x np) (e :: es) [] cpos)) none pos) (tRaise E t)) := ⟨ps_raise F hc hcalm hg hm hx ha.1 hdb he hpl⟩
end
section
variable {P : Program} {w : World} {K : PySem.W.Frag} {mg : Str → Option Value} {base : Heap}
theorem Fun.okC {x qual : Str} {st : Stmt} {f C : Addr} {fd : FuncData} {N ps : List Str} {k : Nat} {sp : Sp} (F : Fun K x qual st f fd) (S : FnScope N ps (defScope st)) (len : ∀ vs H Q E, sp vs H Q E → vs.length = ps.length)
    (hbody : ∀ (cdv : Value) (A : Around) (outer : List Env) (s : Shared) (H : Hp) (vs : List V) (Q : VK) (E : XK), Room k (A.deeper (envOfC qual (defScope st) s.heap.objs.size f cdv)) → sp vs H Q E →
      ∃ t, Bx (PSs (cxOf (CXC P w (.ref C)) P w K mg base N qual (defScope st) f cdv A outer s H E) (defBody st) t) ∧ t { nx := fun _ H2 => Q .non H2, rt := Q } (start N vs) H) : FnOk P w K mg base (CXC P w (.ref C)) (k + 1) f fd ps sp := by
  obtain ⟨oc, od, kV, doc, pm, an, cdv, ct, osl, rfl, lk, hcd⟩ := F.ex
  refine fn_of lk hcd S len fun A outer s H vs Q E hr hsp => ?_
  obtain ⟨t, h, q⟩ := hbody cdv A outer s H vs Q E hr hsp
  exact ⟨t, h.1, q⟩
variable {N : List Str} {qual : Str} {scope : Scope} {f C : Addr} {cd : Value} {A : Around} {outer : List Env} {s : Shared} {H : Hp} {E : XK}
theorem passesOwnC : PassesOwn (model P w) (A.deeper (envOfC qual scope s.heap.objs.size f cd)) (envOfC qual scope s.heap.objs.size f cd) (cxOf (CXC P w (.ref C)) P w K mg base N qual scope f cd A outer s H E).xe := PassesOwn.leaving
end
end L2
namespace L2
open PySem PySem.Spec PyProof.Rows
noncomputable def mroOf (K : PySem.W.Frag) (C : Addr) : List Value := match K.lookup C with
  | some ⟨_, _, .cls cd, _⟩ => cd.mro
  | _ => []
theorem class_mro {K : PySem.W.Frag} {h : Heap} {C : Addr} {bB : List Value} {nid : String} (X : K.In h) (q : PySem.W.excIn K C bB nid = true) :
    ∃ tl N nm qn bs hd sn sub ab col dd a0 a1 a2 a3 a5, h.get? C = some (excClassObj nm qn C N bs tl hd sn sub ab col dd a0 a1 a2 a3 a5 nid) ∧ mroOf K C = .ref C :: tl ∧ OwnTail h bB tl := by
  unfold PySem.W.excIn at q
  split at q
  case h_2 => cases q
  case h_1 dd cd sl ho =>
    split at q
    case h_2 => cases q
    case h_1 C2 tl a0 a1 a2 a3 nn a5 hm hs =>
      simp only [Bool.and_eq_true, beq_iff_eq, Bool.not_eq_true'] at q
      obtain ⟨⟨⟨⟨⟨w1, w2⟩, w3⟩, w4⟩, w5⟩, w6⟩ := q
      subst w1 w2
      have em : mroOf K C2 = .ref C2 :: tl := by
        unfold mroOf
        rw [ho]
        exact hm
      cases cd with
      | mk nm bs mro ns qn hd sn sub ab col del =>
        dsimp only at hm w3 w5 w6
        subst hm w3
        have e : sl = #[a0, a1, a2, a3, some (.builtin nn), a5] := by
          cases sl with
          | mk l => exact congrArg Array.mk hs
        subst e
        exact ⟨tl, ns, nm, qn, bs, hd, sn, sub, ab, col, dd, a0, a1, a2, a3, a5, X _ _ ho, em, PySem.W.tail_of_in X w4⟩
section
variable {M : Model} {A : Around} {E : Value → Shared → Prop}
variable {nm q nm2 q2 : Str} {C N S N2 : Addr} {bs bm bs2 bm2 : List Value} {hdct hd2 : Bool} {sn sn2 : List Str} {sub sub2 : List Value} {ab ab2 : Bool} {col col2 : Option Bool} {dd dd2 : Option Addr} {k0 k1 k2 k3 k5 l0 l1 l2 l3 l5 : Option Value} {newId newId2 : String}
theorem matches_above {h : Heap} {g : Array GenState} {d : Drawn} {t : Nat} {os : OsState} {e : Addr} {oe : Obj} {Q : Bool → Shared → Prop}
    (hC : h.get? C = some (excClassObj nm q C N bs bm hdct sn sub ab col dd k0 k1 k2 k3 k5 newId)) (hS : h.get? S = some (excClassObj nm2 q2 S N2 bs2 bm2 hd2 sn2 sub2 ab2 col2 dd2 l0 l1 l2 l3 l5 newId2))
    (he : h.get? e = some oe) (hcls : oe.cls = .ref C) (hb2 : bm2.contains (.type "BaseException") = true) (hin : bm.contains (.ref S) = true)
    (hq : Q true ⟨h, g, d, t, os⟩) : wpAny M A (excMatches (.ref e) (.ref S)) Q E ⟨h, g, d, t, os⟩ := by
  have hcB : (Value.ref S :: bm2).contains (.type "BaseException") = true := by rw [List.contains_cons, hb2, Bool.or_true]
  have hcC : (Value.ref C :: bm).contains (.ref S) = true := by rw [List.contains_cons, hin, Bool.or_true]
  have f := tc_notTuple
  unfold excMatches
  repeat (first | (with_reducible refine wpAny_loadPart_at he ?_; rw [hcls]) | with_reducible refine wpAny_loadPart_at hS ?_ | (with_reducible refine wpAny_isSubtype_exc hS ?_; rw [hcB]) | (with_reducible refine wpAny_isSubtype_exc hC ?_; rw [hcC]) | wp_step)
  exact hq
end
end L2
namespace L2
open PySem PySem.Spec PyProof.Rows
noncomputable def excO (x C : Addr) : HO := .ext fun h => ∃ ob, h.get? x = some ob ∧ ob.cls = .ref C
theorem Un.track {P : Program} {w : World} {fs : List Addr} {H H' : Hp} {h h' : Heap} {x : Addr} {o : HO} (u : Un fs [] H H' h h') (nx : h.get? x = none) (ok : HOk P w H h) : Un fs [] H (upd H' x o) h h' := by
  have ne : ∀ {b ob}, h.get? b = some ob → b ≠ x := fun {b ob} e z => by rw [z, nx] at e; cases e
  have ne2 : ∀ {b ob}, H b = some ob → b ≠ x := fun {b ob} e => by
    obtain ⟨q, hq⟩ := (ok b ob e).there
    exact ne hq
  exact ⟨u.keep, u.slot, fun b ob e n hx => by rw [upd_ne (ne e)]; exact u.free b ob e n hx, u.there, fun b xs e => by rw [upd_ne (ne2 e)]; exact u.tups b xs e, fun b ob v e => by rw [upd_ne (ne2 e)]; exact u.frzs b ob v e, fun b ps e => by
    obtain ⟨more, z⟩ := u.tbls b ps e
    exact ⟨more, by rw [upd_ne (ne2 e)]; exact z⟩⟩
theorem HOk.track {P : Program} {w : World} {H' : Hp} {h : Heap} {x : Addr} {o : HO} (ok : HOk P w H' h) (nx : H' x = none) (new : ObjOk P w (upd H' x o) h x o) : HOk P w (upd H' x o) h := fun a ob e => by
  have ne : ∀ {b u}, H' b = some u → b ≠ x := fun {b u} q z => by rw [z, nx] at q; cases q
  by_cases z : a = x
  · subst z
    rw [upd_same] at e
    cases e
    exact new
  · rw [upd_ne z] at e
    exact (ok a ob e).stay (fun _ _ _ q => q) (fun b q => by rw [upd_ne (ne q)]; exact q) fun b xs q => by rw [upd_ne (ne q)]; exact q
section
variable {X : Cx} {pins : List (Addr × Obj)} {σ : St} {H : Hp} {s : Shared}
theorem name_goes {M : Model} {A : Around} {E : Value → Shared → Prop} {j : Nat} {n : Str} {pos : Pos} {Q : Unit → Shared → Prop} (I : Inv X pins σ H s) (hN : X.N.Nodup) (hj : X.N[j]? = some n) (hk : X.env.scope.names.lookup n = some .local)
    (h : ∀ s', Inv X pins (σ.set j none) H s' → Q () s') : wpAny M A (do bindName X.env n .none; unbindBehindTheSuite X.env n pos) Q E s := by
  obtain ⟨m, hn, hl⟩ := id I.loc
  have hc : (X.env.scope.kind == .class || (X.env.scope.kind == .module && X.env.locals != X.env.globals)) = false := by rw [I.ok.kind]; rfl
  refine wpAny_nameGoes_keeps hk hn hc fun h' v hn' hs => h _ ?_
  obtain ⟨oL, _, _, hoL, _⟩ := id hn
  have low : ∀ {b o}, X.s₀.heap.get? b = some o → b ≠ X.env.locals := fun {b o} e => Nat.ne_of_lt (Nat.lt_of_lt_of_le (Heap.lt_size e) I.ok.above)
  refine ⟨I.ok, I.os, I.bare, ⟨fun b o e n1 hb hx => (hs.2 b (low e)).trans (I.base.keep b o e n1 hb hx), fun b o e n1 hb hx => ?_, I.base.free, fun b o e hx => ?_, I.base.tups, I.base.frzs, I.base.tbls⟩, ⟨_, hn', fun i y v' e1 e2 e3 => ?_⟩, fun y c e => ?_, I.free, I.freeC, fun p hp => ?_, fun b ob e => ?_, by simpa using I.len⟩
  · obtain ⟨sl, q⟩ := I.base.slot b o e n1 hb hx
    exact ⟨sl, (hs.2 b (low e)).trans q⟩
  · obtain ⟨o', q⟩ := I.base.there b o e hx
    exact ⟨o', (hs.2 b (low e)).trans q⟩
  · by_cases z : i = j
    · subst z
      have li : i < σ.length := by rw [I.len]; exact (List.getElem?_eq_some_iff.mp hj).1
      rw [List.getElem?_set_self li] at e2
      cases e2
    · rw [List.getElem?_set_ne (Ne.symm z)] at e2
      obtain ⟨u, r, q⟩ := hl i y v' e1 e2 e3
      have yn : y ≠ n := fun q => z (nodup_ix hN e1 (q ▸ hj))
      refine ⟨u, r, ?_⟩
      rcases q with ⟨q1, q2⟩ | ⟨q1, c, q2, q3⟩
      · exact .inl ⟨q1, (if_neg yn).trans q2⟩
      · exact .inr ⟨q1, c, q2, q3.sameBut hs (I.cne y c q2)⟩
  · obtain ⟨v2, q⟩ := I.cell y c e
    exact ⟨v2, q.sameBut hs (I.cne y c e)⟩
  · obtain ⟨q1, q2, q3, q4, q5⟩ := I.pin p hp
    exact ⟨(hs.2 p.1 q3).trans q1, q2, q3, q4, q5⟩
  · refine (I.hok b ob e).stay (fun c u hc2 q => (hs.2 c fun z => ?_).trans q) (fun _ q => q) fun _ _ q => q
    have fr := I.free
    rcases hc2 with y | y
    · rw [← y, z, fr] at e; cases e
    · rw [z, fr] at y; cases y
noncomputable def Cx.marked (X : Cx) (x : Addr) : Cx := { X with A := X.A.mark (some (.ref x)), calm := false, xe := fun _ _ => False }
theorem Inv.marked (I : Inv X pins σ H s) (x : Addr) : Inv (X.marked x) pins σ H s :=
  ⟨⟨I.ok.mod, I.ok.kind, I.ok.glob, I.ok.blt, I.ok.above, I.ok.inj, I.ok.has, I.ok.cab, (fun z => nomatch z), I.ok.frames, I.ok.stk, I.ok.exf, I.ok.bs, I.ok.bsz, I.ok.noex, I.ok.exfs, I.ok.funs, I.ok.frf⟩, I.os, I.bare, I.base, I.loc, I.cell, I.free, I.freeC, I.pin, I.hok, I.len⟩
theorem Inv.unmarked {x : Addr} (hd : X.calm = true → X.A.handled = none) (I : Inv (X.marked x) pins σ H s) : Inv X pins σ H s :=
  ⟨⟨I.ok.mod, I.ok.kind, I.ok.glob, I.ok.blt, I.ok.above, I.ok.inj, I.ok.has, I.ok.cab, hd, I.ok.frames, I.ok.stk, I.ok.exf, I.ok.bs, I.ok.bsz, I.ok.noex, I.ok.exfs, I.ok.funs, I.ok.frf⟩, I.os, I.bare, I.base, I.loc, I.cell, I.free, I.freeC, I.pin, I.hok, I.len⟩
end
section
variable {X : Cx} {pins : List (Addr × Obj)} {σ : St} {H1 : Hp} {s1 s' : Shared} {C S : Addr} {nid nid2 : String} {bB bB2 : List Value} {sx n : Str} {np hpos : Pos} {b₀ : Stmt} {suite : List Stmt} {j : Nat} {ts : TS} {D : Ends} {E' : XK} {e : Value}
noncomputable def D1 (D : Ends) (j : Nat) : Ends := { nx := fun σ' H' => D.nx (σ'.set j none) H', rt := fun _ _ => False }
theorem caught_as (I1 : Inv X pins σ H1 s1) (hcalm : X.calm = true) (hst : X.stack = X.env :: X.outer) (hfm : X.env.frame = some X.env.locals) (hgS : Gl X sx) (hmS : X.mg sx = some (.ref S))
    (cC : PySem.W.excIn X.K C bB nid = true) (cS : PySem.W.excIn X.K S bB2 nid2 = true) (b2 : bB2.contains (.type "BaseException") = true) (hin : (mroOf X.K C).tail.contains (.ref S) = true)
    (hN : X.N.Nodup) (hj : X.N[j]? = some n) (hn : X.env.scope.names.lookup n = some .local) (hs : ∀ x, PSs (X.marked x) (b₀ :: suite) ts) (hdb : (sx == ("__debug__" : Str)) = false)
    (cx : CXC X.prog X.w (.ref C) X.stack H1 s1 E' e s') (hE : ∀ x H2, E' (.ref x) (some x) H2 → H2 x = none → ts (D1 D j) (σ.set j (some (.ref x))) (upd H2 x (excO x C))) :
    wpAny (model X.prog X.w) X.A (noteFrame e X.env) (fun _ s₂ => wpAny (model X.prog X.w) X.A (setFlight e none) (fun _ s₃ => wpAny (model X.prog X.w) X.A (handleBy e X.env [.ExceptHandler (some (.Name sx np)) (some n) (b₀ :: suite) hpos]) (SP X pins D) X.xe s₃) X.xe s₂) X.xe s' := by
  obtain ⟨x, H', rfl, hos, hbr, un, ok, ⟨newx, hx, T, a0, oe, vs, oT, tv, ex, ec, ed, e1, nT, hT, Tx, eT, edT, e3⟩, q⟩ := cx
  have fun0 := I1.env0.funs
  have frf := I1.stkFree
  obtain ⟨B, hB⟩ := heap_without s'.heap (x :: T :: frs X.stack)
  have frs' : ∀ b ∈ frs X.stack, H' b = none := fun b z => by
    obtain ⟨_, o, ho, _⟩ := fun0.mem z
    exact un.free b o ho (frf b z) (by simp)
  have fl : s'.heap.FunFrames B X.stack := funFrames_of fun0 (fun b z o ho => un.slot b o ho (frf b z) z (by simp)) fun b z => (hB b).1 (.tail _ (.tail _ z))
  have st : B.StaysIn s'.heap := fun b o hb => by
    by_cases z : b ∈ x :: T :: frs X.stack
    · rw [(hB b).1 z] at hb; cases hb
    · rw [(hB b).2 z] at hb; exact hb
  have fly : Heap.FlyingW B X.stack x (.ref C) a0 s'.heap := ⟨st, (hB x).1 (.head _), fl, oe, vs, T, oT, tv, ex, ec, ed, e1, (hB T).1 (.tail _ (.head _)), Tx, eT, edT, e3⟩
  have mkInv : ∀ h, Heap.FlyingW B X.stack x (.ref C) a0 h → s'.heap.UpToSlots h → Inv X pins σ (upd H' x (excO x C)) { s' with heap := h } := fun h fh sm => by
    have k : ∀ b o, b ∉ frs X.stack → b ≠ x → b ≠ T → s'.heap.get? b = some o → h.get? b = some o := fun b o n1 n2 n3 eb => fh.1 b o (by
      rw [(hB b).2 fun z => by
        rcases List.mem_cons.mp z with z | z
        · exact n2 z
        · rcases List.mem_cons.mp z with z | z
          · exact n3 z
          · exact n1 z]
      exact eb)
    have ks : ∀ b o, b ∈ frs X.stack → s'.heap.get? b = some o → ∃ sl, h.get? b = some { o with slots := sl } := fun b o z eb => sm b o eb (by
      obtain ⟨_, o2, h2, h3⟩ := fl.mem z
      rw [eb] at h2
      cases h2
      exact h3)
    obtain ⟨ob, hob, hcl⟩ := fh.there
    exact I1.call' (s' := { s' with heap := h }) hos ((un.left newx nT k ks).track newx I1.hok) ((ok.left frs' hx hT k).track hx ⟨⟨ob, hob, hcl⟩, ⟨ob, hob⟩, fun h1 h2 ⟨o1, z1, z2⟩ kk => ⟨o1, kk _ z1, z2⟩⟩) hbr (fun b z => absurd z (by simp))
  rw [hst] at fly
  refine wpAny_looks_onW (env := X.env) (outer := X.outer) (by rw [I1.ok.frames, hst]) hfm fly fun h₄ held sm₄ => ?_
  refine wpAny_landsW (s := { s' with heap := h₄ }) held fun h₅ fly₅ sm₅ => ?_
  refine wpAny_handleBy_cons (codeAny_handlers_test ?_) (by intro z; cases z)
  have sm5 := sm₄.trans sm₅
  have J₅ := mkInv h₅ (by rw [hst]; exact fly₅) sm5
  obtain ⟨tl, N, nm, qn, bs, hd, sn, sub, ab, col, dd, a0', a1, a2, a3, a5, oC, mC, oT'⟩ := class_mro I1.ok.mod.kin cC
  obtain ⟨tl2, N2, nm2, qn2, bs2, hd2, sn2, sub2, ab2, col2, dd2, c0, c1, c2, c3, c5, oS, mS, oTS⟩ := class_mro I1.ok.mod.kin cS
  obtain ⟨ob, hob, hcl⟩ := fly₅.there
  refine ld_glob (X := X.marked x) (J₅.marked x) hgS hmS ?_ hdb
  refine matches_above (J₅.bk _ _ oC) (J₅.bk _ _ oS) hob hcl (oTS.hasType b2) (by rw [mC] at hin; exact hin) ?_
  refine codeAny_handlers_suite_as ?_
  refine lands_againW (s := { s' with heap := h₅ }) fly₅ fun h₆ fly₆ sm₆ => ?_
  refine store_ok (v := .ref x) (mkInv h₆ (by rw [hst]; exact fly₆) (sm5.trans sm₆)) hN hj (.inl hn) rfl (fun s7 I7 => ?_) (.inr hn)
  refine wpAny_mono (hs x pins s7 _ _ (D1 D j) (I7.marked x) (hE x H' q hx)) (fun f s8 q8 => ?_) fun _ _ z => z.elim
  cases f with
  | next =>
    obtain ⟨σ', H8, I8, q⟩ := q8
    exact name_goes (I8.unmarked I1.ok.hd) hN hj hn fun s9 I9 => ⟨_, H8, I9, q⟩
  | brk => obtain ⟨_, _, _, z⟩ := q8; exact z.elim
  | cont => obtain ⟨_, _, _, z⟩ := q8; exact z.elim
  | ret u => obtain ⟨_, _, _, _, _, z⟩ := q8; exact z.elim
end
section
variable {X : Cx} {C S f : Addr} {k : Nat} {fd : FuncData} {ps : List Str} {sp : Sp} {dvs : List V} {ds : List Value} {nid nid2 : String} {bB bB2 : List Value} {fx sx n : Str} {p np hpos cpos epos pos : Pos} {b₀ : Stmt} {suite : List Stmt} {j : Nat} {t : TA} {ts : TS} {e : Expr} {es : List Expr}
end
end L2
namespace L2
open PySem PySem.Spec PyProof.Rows
section
variable {prog : Program} {w : World} {A : Around} {E : Value → Shared → Prop} {h : Heap} {g : Array GenState} {d : Drawn} {t : Nat} {os : OsState} {a : Addr} {o : Obj} {K : PySem.W.Frag}
  {nm q : Str} {C N : Addr} {bs bm bmB : List Value} {hdct : Bool} {sn : List Str} {sub : List Value} {ab : Bool} {col : Option Bool} {dd : Option Addr} {k0 k1 k2 k3 k5 : Option Value} {B newId : String}
theorem xc_get {R : Result → Shared → Prop} (hC : h.get? C = some (excClassObj nm q C N bs bm hdct sn sub ab col dd k0 k1 k2 k3 k5 newId)) (ho : bm.contains (.type "object") = true)
    (hx : h.get? a = some o) (hc : o.cls = .ref C) (hq : R (.ok (.ret (.ref C))) ⟨h, g, d, t, os⟩) :
    codeAny (model prog w) A (.call (.builtin "getset_descriptor.__get__") ⟨[.builtin "object.__class__", .ref a, .ref C], []⟩) R ⟨h, g, d, t, os⟩ := by
  have hT5 : (⟨h, g, d, t, os⟩ : Shared).TypeIs (.builtin "object.__class__") "getset_descriptor" := F.typeOf_object_class
  have hcB : (Value.ref C :: bm).contains (.type (".".intercalate ("object.__class__".cutAt '.').dropLast)) = true := by
    rw [F.owner_object_class, List.contains_cons, ho]; rfl
  refine codeAny_call_builtin F.slot_gs_get.plain F.entry_gs_get (F.slot_gs_get.check _ _ _ _ _ _ _ _ hT5 (F.args_gs_get _ _ _) ?_)
  repeat (any_goals (first | assumption | (with_reducible refine wpAny_loadPart_at hx ?_; rw [hc]) | (with_reducible refine wpAny_isSubtype_exc hC ?_; rw [hcB]) | wp_step))
  refine ⟨Code.quiet_builtin _ (by decide +kernel), codeAny_builtin F.entry_object_class ?_⟩
  repeat (any_goals (first | assumption | (with_reducible refine wpAny_loadPart_at hx ?_; rw [hc]) | wp_step))
theorem xc_entry {tk : Tok} {Q : Fin → Shared → Prop} (X : K.In h) (hca : PySem.W.findIn K (.ref C) "__class__" = some (some (.builtin "object.__class__"))) (hC : h.get? C = some (excClassObj nm q C N bs bm hdct sn sub ab col dd k0 k1 k2 k3 k5 newId)) (ho : bm.contains (.type "object") = true)
    (hx : h.get? a = some o) (hc : o.cls = .ref C) (hq : Q (.done (.ret (.ref C))) ⟨h, g, d, t, os⟩) :
    wpAny (model prog w) A (Builtin.«object.__getattribute__» ⟨[.ref a, .str "__class__" tk], []⟩) Q E ⟨h, g, d, t, os⟩ := by
  have hT5 : (⟨h, g, d, t, os⟩ : Shared).TypeIs (.builtin "object.__class__") "getset_descriptor" := F.typeOf_object_class
  have f5 := F.typeOf_object_class
  have f6 := F.slot_gs_get.lookup
  have f7 := F.slot_gs_set.lookup
  have L := PySem.W.looks_findIn (M := model prog w) X hca
  repeat (any_goals (first | assumption | (with_reducible refine wpAny_loadPart_at hx ?_; rw [hc]) | with_reducible refine L.at ?_ | wp_step))
  refine xc_get hC ho hx hc ?_
  repeat (any_goals (first | assumption | wp_step))
theorem xc_check {M : Model} {nameV : Value} {Q : Unit → Shared → Prop} (hC : h.get? C = some (excClassObj nm q C N bs bm hdct sn sub ab col dd k0 k1 k2 k3 k5 newId)) (hb : bm.contains (.type "BaseException") = true)
    (hx : h.get? a = some o) (hc : o.cls = .ref C) (hq : Q () ⟨h, g, d, t, os⟩) : wpAny M A (checkBuiltinCall "BaseException.__getattribute__" ⟨[.ref a, nameV], []⟩) Q E ⟨h, g, d, t, os⟩ := by
  have hk : builtinKind "BaseException.__getattribute__" = some .slot := by decide +kernel
  have hsp : splitId "BaseException.__getattribute__" = some ("BaseException", "__getattribute__") := by decide +kernel
  have hcB : (Value.ref C :: bm).contains (.type "BaseException") = true := by rw [List.contains_cons, hb]; rfl
  have ha := F.args_bexc_ga (.ref a) nameV
  simp only [checkBuiltinCall, hk, hsp]
  refine wpAny_bind ?_
  unfold isInstance
  repeat (first | (with_reducible refine wpAny_loadPart_at hx ?_; rw [hc]) | (with_reducible refine wpAny_isSubtype_exc hC ?_; rw [hcB]) | wp_step)
  exact hq
theorem xc_by {tk : Tok} {Q : Value → Shared → Prop} (FB : ExcAttrFacts B) (X : K.In h) (hga : PySem.W.findIn K (.ref C) "__getattribute__" = some (some (.builtin "BaseException.__getattribute__"))) (hgn : PySem.W.findIn K (.ref C) "__getattr__" = some none)
    (hca : PySem.W.findIn K (.ref C) "__class__" = some (some (.builtin "object.__class__"))) (hC : h.get? C = some (excClassObj nm q C N bs bm hdct sn sub ab col dd k0 k1 k2 k3 k5 newId)) (ho : bm.contains (.type "object") = true) (hb : bm.contains (.type "BaseException") = true)
    (hx : h.get? a = some o) (hc : o.cls = .ref C) (hq : Q (.ref C) ⟨h, g, d, t, os⟩) : wpAny (model prog w) A (getAttrBy (.ref a) (.str "__class__" tk) false) Q E ⟨h, g, d, t, os⟩ := by
  have f3 := FB.ga.bind (.ref a)
  have hx2 : (Value.builtin "BaseException.__getattribute__" == Value.builtin "object.__getattribute__") = false := by decide +kernel
  have hx1 : (onTheHeap (Value.ref C) && Value.builtin "BaseException.__getattribute__" == Value.builtin "object.__getattribute__") = false := by rw [hx2]; rfl
  have L1 := PySem.W.looks_findIn (M := model prog w) X hga
  have L2 := PySem.W.looks_findIn (M := model prog w) X hgn
  repeat (any_goals (first | assumption | (with_reducible refine wpAny_loadPart_at hx ?_; rw [hc]) | with_reducible refine L1.at ?_ | with_reducible refine L2.at ?_ | wp_step))
  refine codeAny_call_builtin FB.ga.plain F.entry_bexc_ga (xc_check hC hb hx hc (xc_entry X hca hC ho hx hc ?_))
  repeat (any_goals (first | assumption | wp_step))
theorem xc_attr {Q : Option Value → Shared → Prop} (FB : ExcAttrFacts B) (X : K.In h) (hga : PySem.W.findIn K (.ref C) "__getattribute__" = some (some (.builtin "BaseException.__getattribute__"))) (hgn : PySem.W.findIn K (.ref C) "__getattr__" = some none)
    (hca : PySem.W.findIn K (.ref C) "__class__" = some (some (.builtin "object.__class__"))) (hC : h.get? C = some (excClassObj nm q C N bs bm hdct sn sub ab col dd k0 k1 k2 k3 k5 newId)) (ho : bm.contains (.type "object") = true) (hb : bm.contains (.type "BaseException") = true)
    (hx : h.get? a = some o) (hc : o.cls = .ref C) (hq : Q (some (.ref C)) ⟨h, g, d, t + 1, os⟩) : wpAny (model prog w) A (getAttr? (.ref a) "__class__") Q E ⟨h, g, d, t, os⟩ := by
  unfold getAttr? getAttrBy?
  repeat (any_goals (first | assumption | with_reducible apply xc_by FB X hga hgn hca hC ho hb hx hc | wp_step))
end
structure XcOk (K : PySem.W.Frag) (C : Addr) (B nid : String) (bB : List Value) : Prop where
  ex : PySem.W.excIn K C bB nid = true
  attr : ExcAttrFacts B
  ga : PySem.W.findIn K (.ref C) "__getattribute__" = some (some (.builtin "BaseException.__getattribute__"))
  gn : PySem.W.findIn K (.ref C) "__getattr__" = some none
  ca : PySem.W.findIn K (.ref C) "__class__" = some (some (.builtin "object.__class__"))
  ho : bB.contains (.type "object") = true
  hb : bB.contains (.type "BaseException") = true
theorem kitx_exc {K : PySem.W.Frag} {C x : Addr} {B nid : String} {bB : List Value} (Z : XcOk K C B nid bB) : PySem.W.KitX K (.ref x) (.ref C) (fun h => ∃ ob, h.get? x = some ob ∧ ob.cls = .ref C) where
  ty := fun M h _ ⟨ob, e, c⟩ => c ▸ (PySem.W.Looks.ld e).andThen .now
  it := fun M h X _ => by
    obtain ⟨tl, N, nm, qn, bs, hd, sn, sub, ab, col, dd, a0, a1, a2, a3, a5, oC, _, _⟩ := class_mro X Z.ex
    intro A2 Q2 E2 s2 k2 q2
    unfold isType loadHead
    exact wpAny_bind (wpAny_loadPart (k2 _ _ oC) (wpAny_pure q2))
  ne := fun h tp dd its n sl X htp => by
    obtain ⟨tl, N, nm, qn, bs, hd, sn, sub, ab, col, dd2, a0, a1, a2, a3, a5, oC, _, _⟩ := class_mro X Z.ex
    refine Bool.eq_false_iff.mpr fun z => ?_
    have e : C = tp := Value.ref.inj (beq_iff_eq.mp z)
    subst e
    have y := congrArg (fun o => o.data) (Option.some.inj (oC.symm.trans htp))
    exact absurd y (fun w => nomatch w)
  ca := fun {prog w A E Q s} X ⟨ob, e, c⟩ k2 => by
    obtain ⟨tl, N, nm, qn, bs, hd, sn, sub, ab, col, dd2, a0, a1, a2, a3, a5, oC, _, oT⟩ := class_mro X Z.ex
    obtain ⟨hh, g, d, t, os⟩ := s
    exact xc_attr Z.attr X Z.ga Z.gn Z.ca oC (oT.hasType Z.ho) (oT.hasType Z.hb) e c k2
noncomputable def rIsX (K : PySem.W.Frag) (C : Addr) : List V → Hp → VK → Prop := fun xs H Q => ∃ x S b, xs = [.ref x, .ref S] ∧ H x = some (excO x C) ∧ PySem.W.kitOne K (.ref C) (.ref S) = some b ∧ Q (.bl b) H
noncomputable def rIsXT (K : PySem.W.Frag) (C : Addr) : List V → Hp → VK → Prop := fun xs H Q => ∃ x T b, xs = [.ref x, .ty T] ∧ H x = some (excO x C) ∧ PySem.W.kitOne K (.ref C) (.type T) = some b ∧ Q (.bl b) H
noncomputable def rIsXs (K : PySem.W.Frag) (C : Addr) : List V → Hp → VK → Prop := fun xs H Q => ∃ (x tp : Addr) (cs : List Addr) (b : Bool), xs = [.ref x, .ref tp] ∧ H x = some (excO x C) ∧ SqT K H tp (cs.map V.ref) ∧ PySem.W.kitAny K (.ref C) (cs.map Value.ref) = some b ∧ Q (.bl b) H
theorem vals_refs : ∀ {cs : List Addr} {us : List Value}, Vals (cs.map V.ref) us → us = cs.map Value.ref
  | [], _, r => by cases r; rfl
  | c :: cs, _, r => by
    cases r with
    | cons h t =>
      cases (show _ = _ from h)
      rw [vals_refs t]
      rfl
section
variable {X : Cx} {C : Addr} {B nid : String} {bB : List Value}
theorem call_isX (Z : XcOk X.K C B nid bB) : CallR X (.builtin "isinstance") (rIsX X.K C) := by
  intro pins s σ H xs us Q I r ⟨x, S, b, e, hx, ek, q⟩
  subst e
  obtain ⟨u, w', rfl, rx, rt⟩ := vals2 r
  cases (show w' = Value.ref S from rt)
  cases (show u = Value.ref x from rx)
  obtain ⟨p, _⟩ := I.hok x _ hx
  exact PySem.W.kia_one (kitx_exc Z) I.kIn p ek (fun z => nomatch z) fun tk => ⟨.bl b, H, I.tok tk, rfl, q⟩
theorem call_isXT (Z : XcOk X.K C B nid bB) : CallR X (.builtin "isinstance") (rIsXT X.K C) := by
  intro pins s σ H xs us Q I r ⟨x, T, b, e, hx, ek, q⟩
  subst e
  obtain ⟨u, w', rfl, rx, rt⟩ := vals2 r
  cases (show w' = Value.type T from rt)
  cases (show u = Value.ref x from rx)
  obtain ⟨p, _⟩ := I.hok x _ hx
  exact PySem.W.kia_one (kitx_exc Z) I.kIn p ek (fun z => nomatch z) fun tk => ⟨.bl b, H, I.tok tk, rfl, q⟩
theorem call_isXs (Z : XcOk X.K C B nid bB) : CallR X (.builtin "isinstance") (rIsXs X.K C) := by
  intro pins s σ H xs us Q I r ⟨x, tp, cs, b, e, hx, ht, ek, q⟩
  subst e
  obtain ⟨u, w', rfl, rx, rt⟩ := vals2 r
  cases (show w' = Value.ref tp from rt)
  cases (show u = Value.ref x from rx)
  obtain ⟨p, _⟩ := I.hok x _ hx
  obtain ⟨its, rv, ⟨o, e1, e2, n, e3⟩, _⟩ := I.tuple ht
  have ei := vals_refs rv
  subst ei
  obtain ⟨oc, od, odt, osl⟩ := o
  cases (show oc = _ from e2)
  cases (show odt = _ from e3)
  exact PySem.W.kia_tup (kitx_exc Z) I.kIn p e1 ek (fun z => nomatch z) fun tk => ⟨.bl b, H, I.tok tk, rfl, q⟩
end
end L2
namespace L2
open PySem PySem.Spec PyProof.Rows
section
variable {X : Cx}
end
end L2
namespace My
open PySem L2
open PySem.W (Dat kqdP kqdPs kqdOk)
end My
namespace My
open PySem L2
open PySem.W (Dat kqdP kqdPs kqdOk)
end My
namespace L2
open PySem PySem.Spec PyProof.Rows
section
open PySem.SeqAt
open PySem.AutoSeq1 (wpAny_loadPart')
open PySem.MeetsSeq PySem.MeetsSeq2 PySem.MeetsSeq3
end
section
variable {X : Cx}
end
end L2
namespace My
open PySem L2
open PySem.W (Dat kqdP kqdPs kqdOk)
end My
namespace L2
open PySem PySem.Spec PyProof.Rows
section
open PySem.Sem (wp)
end
section
variable {X : Cx}
end
end L2
namespace L2
open PySem PySem.Spec PyProof.Rows
structure FunD (K : PySem.W.Frag) (x qual : Str) (st : Stmt) (f : Addr) (fd : FuncData) (T : Addr) : Prop where
  ex : ∃ (oc : Value) (od : Option Addr) (kV doc pm : Value) (an : Option Addr) (cdv ct : Value) (osl : Array (Option Value)),
    fd = PySem.W.fnOf x qual (defArgs st) (defBody st) (defScope st) (.ref T) kV doc pm an cdv ct ∧ K.lookup f = some ⟨oc, od, .func fd, osl⟩ ∧ PySem.W.codeIn K cdv qual = true
  kp : PySem.W.keepIn K (.ref f) = true
section
variable {P : Program} {w : World} {K : PySem.W.Frag} {mg : Str → Option Value} {base : Heap}
theorem FunD.okB {x qual : Str} {st : Stmt} {f T : Addr} {fd : FuncData} {N ps : List Str} {k : Nat} {sp : Sp} (F : FunD K x qual st f fd T) (S : FnScope N ps (defScope st)) (len : ∀ vs H Q E, sp vs H Q E → vs.length = ps.length)
    (hbody : ∀ (cdv : Value) (A : Around) (outer : List Env) (s : Shared) (H : Hp) (vs : List V) (Q : VK) (E : XK), Room k (A.deeper (envOfC qual (defScope st) s.heap.objs.size f cdv)) → sp vs H Q E →
      ∃ t, Bx (PSs (cxOf CX0 P w K mg base N qual (defScope st) f cdv A outer s H E).nox (defBody st) t) ∧ t { nx := fun _ H2 => Q .non H2, rt := Q } (start N vs) H) : FnOk P w K mg base CX0 (k + 1) f fd ps sp := by
  obtain ⟨oc, od, kV, doc, pm, an, cdv, ct, osl, rfl, lk, hcd⟩ := F.ex
  refine fn_of lk hcd S len fun A outer s H vs Q E hr hsp => ?_
  obtain ⟨t, h, q⟩ := hbody cdv A outer s H vs Q E hr hsp
  exact ⟨t, h.1.nox, q⟩
theorem FunD.binds {x qual : Str} {st : Stmt} {f T : Addr} {fd : FuncData} {ps : List Str} {ds : List Value} (F : FunD K x qual st f fd T)
    (h : ∀ (kV doc pm : Value) (an : Option Addr) (cdv ct : Value) (s : Shared) (us : List Value), K.In s.heap → (us ++ ds).length = ps.length →
      BindsTo s (PySem.W.fnOf x qual (defArgs st) (defBody st) (defScope st) (.ref T) kV doc pm an cdv ct) ⟨us, []⟩ (ps.zip (us ++ ds))) : Binds K fd ps ds := by
  obtain ⟨oc, od, kV, doc, pm, an, cdv, ct, osl, rfl, lk, hcd⟩ := F.ex
  exact h kV doc pm an cdv ct
end
end L2
namespace My
open PySem L2
end My
namespace L2
open PySem PySem.Spec PyProof.Rows
noncomputable def pairK (c : Nat) : List Int := [((c / 2 : Nat) : Int), ((c % 2 : Nat) : Int)]
noncomputable def pairH (c : Nat) : Int := reduceHash (Builtin.Tuple.tupleHashOf [hashInt ((c / 2 : Nat) : Int), hashInt ((c % 2 : Nat) : Int)])
noncomputable def tabAsk (te : SetTable × List Nat) (c : Nat) : Option SetTable.Met := te.1.probe (fun i => ((te.2[i]?).map pairH).getD 0) (pairH c) (te.1.probeStart (pairH c))
noncomputable def tabPut (te : SetTable × List Nat) (c j : Nat) : SetTable × List Nat := ((te.1.put j).1, te.2.take (te.1.put j).2 ++ c :: te.2.drop (te.1.put j).2)
noncomputable def tabStep (te : SetTable × List Nat) (c : Nat) : SetTable × List Nat :=
  match tabAsk te c with
  | some (.empty j none) => tabPut te c j
  | _ => te
noncomputable def tabAll (led : Bool) : List (SetTable × List Nat) :=
  let s0 := [((SetTable.fresh 0 0 led, []) : SetTable × List Nat)]
  let nx := fun (l : List (SetTable × List Nat)) => l.flatMap fun te => ([0, 1, 2, 3].filter fun c => !te.2.contains c).map fun c => tabStep te c
  s0 ++ nx s0 ++ nx (nx s0) ++ nx (nx (nx s0)) ++ nx (nx (nx (nx s0)))
noncomputable def entP (p : Nat × Addr) : Int × Value := (pairH p.1, .ref p.2)
noncomputable def esP (L : List (Nat × Addr)) : Array (Int × Value) := (L.map entP).toArray
noncomputable def PrSet (prog : Program) (w : World) (h : Heap) (S : Addr) (led : Bool) (t : SetTable) (L : List (Nat × Addr)) : Prop :=
  ∃ o ep, h.get? S = some o ∧ o.ExactSet ∧ o.data = .set (esP L) ep t ∧ (t, L.map Prod.fst) ∈ tabAll led ∧ ∀ p ∈ L, p.1 < 4 ∧ IsTupleKey (intKind prog w) h (pairK p.1) p.2
section
variable {prog : Program} {w : World} {A : Around} {E : Value → Shared → Prop} {s : Shared}
end
end L2
namespace L2
open PySem PySem.Spec PyProof.Rows
noncomputable def GotP (L xs : List (Nat × Addr)) : Prop := (∀ p ∈ L, p ∈ xs) ∧ (∀ x ∈ xs, x.1 ∈ L.map Prod.fst) ∧ (L.map Prod.fst).Nodup
theorem GotP.nil : GotP [] [] := ⟨fun _ h => h, fun _ h => (List.not_mem_nil h).elim, List.nodup_nil⟩
theorem GotP.old {L xs : List (Nat × Addr)} {x : Nat × Addr} (h : GotP L xs) (hm : x.1 ∈ L.map Prod.fst) : GotP L (xs ++ [x]) := by
  refine ⟨fun p hp => List.mem_append_left _ (h.1 p hp), fun y hy => ?_, h.2.2⟩
  rcases List.mem_append.mp hy with hy | hy
  · exact h.2.1 y hy
  · rw [List.mem_singleton.mp hy]; exact hm
theorem GotP.new {L L' xs : List (Nat × Addr)} {x : Nat × Addr} (h : GotP L xs) (hm : x.1 ∉ L.map Prod.fst) (p : List.Perm L' (x :: L)) : GotP L' (xs ++ [x]) := by
  refine ⟨fun q hq => ?_, fun y hy => ?_, ?_⟩
  · rcases List.mem_cons.mp (p.mem_iff.mp hq) with rfl | hq
    · exact List.mem_append_right _ (List.mem_singleton.mpr rfl)
    · exact List.mem_append_left _ (h.1 q hq)
  · refine (p.map Prod.fst).mem_iff.mpr ?_
    rcases List.mem_append.mp hy with hy | hy
    · exact List.mem_cons_of_mem _ (h.2.1 y hy)
    · rw [List.mem_singleton.mp hy]; exact List.mem_cons_self
  · exact (p.map Prod.fst).nodup_iff.mpr (List.nodup_cons.mpr ⟨hm, h.2.2⟩)
section
variable {prog : Program} {w : World}
theorem PrSet.keep {h h' : Heap} {I S : Addr} {led : Bool} {t : SetTable} {L : List (Nat × Addr)} (hm : PrSet prog w h S led t L) (hS : S ≠ I) (hI : ∃ oi, h.get? I = some oi ∧ oi.cls ≠ .type "tuple")
    (hk : ∀ b o, b ≠ I → h.get? b = some o → h'.get? b = some o) : PrSet prog w h' S led t L := by
  obtain ⟨o, ep, ho, hex, hd, htab, hall⟩ := hm
  obtain ⟨oi, e1, e2⟩ := hI
  refine ⟨o, ep, hk _ _ hS ho, hex, hd, htab, fun p hp => ⟨(hall p hp).1, ?_⟩⟩
  obtain ⟨o', it, n, e, c, r⟩ := (hall p hp).2
  refine ⟨o', it, n, hk _ _ (fun z => ?_) e, c, r⟩
  rw [z, e1] at e
  cases e
  exact e2 c
end
section
variable {prog : Program} {w : World} {A : Around} {R : Result → Shared → Prop}
end
section
variable {prog : Program} {w : World} {A : Around} {E : Value → Shared → Prop} {s : Shared}
end
end L2
namespace L2
open PySem PySem.Spec PyProof.Rows
noncomputable def SetIt (w : World) (h : Heap) (I S : Addr) (ep : Nat) (t : SetTable) (L : List (Nat × Addr)) (i : Nat) : Prop :=
  ∃ (o oS : Obj) (slot : Nat), h.get? I = some o ∧ o.cls = .type "set_iterator" ∧ o.data = .fields #[.int slot 0, .int i 0, .ref S, .int (L.length : Nat) 0, .int ep 0] ∧ (w.params.followText "set-order" = false → SetTable.below t.place slot = i) ∧
    h.get? S = some oS ∧ oS.data = .set (esP L) ep t
section
variable {prog : Program} {w : World} {A : Around} {E : Value → Shared → Prop} {s : Shared}
theorem SetIt.at {h h' : Heap} {I S : Addr} {ep : Nat} {t : SetTable} {L : List (Nat × Addr)} {i : Nat} (x : SetIt w h I S ep t L i) (hI : ∀ o, h.get? I = some o → h'.get? I = some o) (hS : ∀ o, h.get? S = some o → h'.get? S = some o) : SetIt w h' I S ep t L i := by
  obtain ⟨o, oS, slot, ho, hc, hd, hb, hoS, hdS⟩ := x
  exact ⟨o, oS, slot, hI _ ho, hc, hd, hb, hS _ hoS, hdS⟩
end
end L2
namespace L2
open PySem PySem.Spec PyProof.Rows
section
variable {prog : Program} {w : World} {A : Around} {E : Value → Shared → Prop} {s : Shared}
end
end L2
namespace L2
open PySem PySem.Spec PyProof.Rows
section
variable {prog : Program} {w : World} {A : Around} {E : Value → Shared → Prop} {s : Shared}
end
end L2
namespace L2
open PySem PySem.Spec PyProof.Rows
section
variable {prog : Program} {w : World} {A : Around} {E : Value → Shared → Prop} {s : Shared}
end
end L2
namespace L2
open PySem PySem.Spec PyProof.Rows
section
variable {X : Cx} {e : Expr} {te : TE} {p p' pos pos' : Pos} {xs xt : Str}
end
end L2
namespace L2
open PySem PySem.Spec PyProof.Rows
section
variable {prog : Program} {w : World} {A : Around} {E : Value → Shared → Prop} {s : Shared}
end
section
variable {X : Cx}
end
end L2
namespace My
open PySem L2
noncomputable def hiV (c : Nat) : Int := ((c / 2 : Nat) : Int)
noncomputable def loV (c : Nat) : Int := ((c % 2 : Nat) : Int)
theorem hi_bit {c : Nat} (h : c < 4) : hiV c = 0 ∨ hiV c = 1 := by
  have : c = 0 ∨ c = 1 ∨ c = 2 ∨ c = 3 := by omega
  rcases this with rfl | rfl | rfl | rfl <;> decide
theorem lo_bit {c : Nat} (h : c < 4) : loV c = 0 ∨ loV c = 1 := by
  have : c = 0 ∨ c = 1 ∨ c = 2 ∨ c = 3 := by omega
  rcases this with rfl | rfl | rfl | rfl <;> decide
inductive Chosen {α : Type} : List α → List (List α) → Prop
  | nil : Chosen [] []
  | cons {x : α} {r : List α} {l : List α} {ls : List (List α)} : x ∈ l → Chosen r ls → Chosen (x :: r) (l :: ls)
theorem Chosen.length {α : Type} {r : List α} {ls : List (List α)} (h : Chosen r ls) : r.length = ls.length := by
  induction h with
  | nil => rfl
  | cons _ _ ih => rw [List.length_cons, List.length_cons, ih]
theorem Chosen.snoc {α : Type} : ∀ {r : List α} {ls : List (List α)} {l : List α}, Chosen r (ls ++ [l]) ↔ ∃ a x, r = a ++ [x] ∧ Chosen a ls ∧ x ∈ l
  | r, [], l => by
    constructor
    · intro h
      cases h with
      | cons hx hr => cases hr; exact ⟨[], _, rfl, .nil, hx⟩
    · rintro ⟨a, x, rfl, ha, hx⟩
      cases ha
      exact .cons hx .nil
  | r, m :: ls, l => by
    constructor
    · intro h
      cases h with
      | cons hx hr =>
        obtain ⟨a, y, rfl, ha, hy⟩ := Chosen.snoc.mp hr
        exact ⟨_ :: a, y, rfl, .cons hx ha, hy⟩
    · rintro ⟨a, x, rfl, ha, hx⟩
      cases ha with
      | cons hy ha => exact .cons hy (Chosen.snoc.mpr ⟨_, x, rfl, ha, hx⟩)
noncomputable def Codes (cs : List Nat) : Prop := ∀ c ∈ cs, c < 4
theorem Chosen.codes {r : List Nat} {ls : List (List Nat)} (h : Chosen r ls) (hc : ∀ l ∈ ls, Codes l) : Codes r := by
  induction h with
  | nil => exact fun _ h => (List.not_mem_nil h).elim
  | cons hx _ ih =>
    intro c hm
    rcases List.mem_cons.mp hm with rfl | hm
    · exact hc _ List.mem_cons_self _ hx
    · exact ih (fun l hl => hc l (List.mem_cons_of_mem _ hl)) c hm
theorem Codes.hi {r : List Nat} (h : Codes r) : Bits (r.map hiV) := fun n hn => by
  obtain ⟨c, hc, rfl⟩ := List.mem_map.mp hn
  exact hi_bit (h c hc)
theorem Codes.lo {r : List Nat} (h : Codes r) : Bits (r.map loV) := fun n hn => by
  obtain ⟨c, hc, rfl⟩ := List.mem_map.mp hn
  exact lo_bit (h c hc)
end My
namespace L2
open PySem PySem.Spec PyProof.Rows
noncomputable def strsLook : List Str → List Value → Bool
  | [], [] => true
  | x :: xs, .str y _ :: vs => x == y && strsLook xs vs
  | _, _ => false
noncomputable def TupK (K : PySem.W.Frag) (a : Addr) (xs : List Str) : Prop := (match K.lookup a with
  | some o => (o.cls == .type "tuple" && o.dict.isNone) && (match o.data with
    | .seq vs _ => strsLook xs vs.toList
    | _ => false)
  | none => false) = true
theorem strs_vals : ∀ {xs : List Str} {vs : List Value}, strsLook xs vs = true → Vals (xs.map V.str) vs
  | [], [], _ => .nil
  | x :: xs, v :: vs, h => by
    cases v with
    | str y t =>
      have h' : (x == y && strsLook xs vs) = true := h
      rw [Bool.and_eq_true] at h'
      have e : x = y := eq_of_beq h'.1
      subst e
      exact .cons ⟨t, rfl⟩ (strs_vals h'.2)
    | _ => simp [strsLook] at h
  | [], _ :: _, h => by simp [strsLook] at h
  | _ :: _, [], h => by simp [strsLook] at h
theorem TupK.sq {K : PySem.W.Frag} {H : Hp} {a : Addr} {xs : List Str} (h : TupK K a xs) (hz : xs.length ≤ 1000) : SqT K H a (xs.map V.str) := by
  unfold TupK at h
  cases e : K.lookup a with
  | none => rw [e] at h; cases h
  | some o =>
    rw [e] at h
    simp only [Bool.and_eq_true] at h
    obtain ⟨⟨h1, _⟩, h2⟩ := h
    cases ed : o.data with
    | seq vs n =>
      rw [ed] at h2
      have rv := strs_vals h2
      have lv := rv.length
      rw [List.length_map] at lv
      have lz : vs.size = xs.length := by rw [lv, Array.length_toList]
      have line : (1000 : Nat) ≤ sizeLine := by decide
      exact .inr ⟨o, vs, n, e, beq_iff_eq.mp h1, ed, by omega, rv⟩
    | _ => rw [ed] at h2; cases h2
theorem TupK.plain {K : PySem.W.Frag} {a : Addr} {xs : List Str} (h : TupK K a xs) : ∃ o, K.lookup a = some o ∧ o.cls = .type "tuple" ∧ o.dict = none := by
  unfold TupK at h
  cases e : K.lookup a with
  | none => rw [e] at h; cases h
  | some o =>
    rw [e] at h
    simp only [Bool.and_eq_true] at h
    exact ⟨o, rfl, beq_iff_eq.mp h.1.1, Option.isNone_iff_eq_none.mp h.1.2⟩
end L2
namespace L2
open PySem PySem.Spec PyProof.Rows
section
variable {X : Cx} {o e : Expr} {apos cpos : Pos} {td ty : TE}
end
section
variable {X : Cx} {e : Expr} {te : TE} {p p' pos pos' : Pos}
end
end L2
namespace L2
open PySem PySem.Spec PyProof.Rows
open PySem.W (Dat kqdP kqdPs kqdOk)
section
variable {X : Cx}
open Classical in
end
section
variable {X : Cx} {K : PySem.W.Frag}
end
end L2
namespace My
open PySem L2
end My
namespace My
open PySem L2
end My
namespace L2
open PySem PySem.Spec PyProof.Rows
theorem far {n : Nat} (i j : Nat) (h : i ≠ j) : (n + i : Nat) ≠ n + j := by omega
end L2
namespace L2
open PySem PySem.Spec PyProof.Rows
noncomputable def EntD (h : Heap) (d : Addr) (es : Array DictEntry) (ep : Nat) : Prop := ∃ ob, h.get? d = some ob ∧ ob.ExactDict ∧ ob.data = .dict es ep
section
variable {prog : Program} {w : World} {A : Around} {E : Value → Shared → Prop} {s : Shared}
end
section
variable {g : TG} {tt : TT} {te : TE} {n0 : Nat} {cap : List Nat} {σ : St} {Q : VK} {D : Addr} {H1 : Hp}
end
end L2
namespace L2
open PySem PySem.Spec PyProof.Rows
end L2
namespace L2
open PySem PySem.Spec PyProof.Rows
noncomputable def Its (x : Str) : It := ⟨fun i _ => i < x.cps.size, fun i H v H' => H' = H ∧ ∃ c, x.cps[i]? = some c ∧ v = .str ⟨#[c]⟩, fun i _ => x.cps.size ≤ i⟩
theorem turn_str {P : Program} {w : World} {K : PySem.W.Frag} {tg : Expr} (it : Addr) (x : Str) (t : Tok) : Turn P w K tg (Its x) [it] it (fun i h => h.IsStrIter it "str_ascii_iterator" x t i) where
  mem := by simp
  obj := fun i h st b hb => by
    have e : b = it := by simpa using hb
    subst e
    obtain ⟨o, e, c, d⟩ := st
    exact ⟨o, e, fun v z => by rw [d] at z; cases z⟩
  keep := fun i h h' st k => by
    obtain ⟨o, e, c, d⟩ := st
    exact ⟨o, k it (by simp) o e, c, d⟩
  item := by
    intro X hP hw hK hc i pins s σ H E I hf st hg
    subst hP hw hK
    have hx : x.cps[i]? = some x.cps[i] := Array.getElem?_eq_getElem hg
    obtain ⟨f0, f1, f2, f3, f4, f5⟩ := hf it (by simp)
    refine wpAny_pyNext_ascii_item st hx fun h' st' sb => ?_
    have I1 : Inv X pins σ H { s with heap := h', toks := s.toks + 1 } := I.turned (t' := s.toks + 1) (fun b o hb e => (sb.2 b hb).trans e) f0 f1 f3 f4 f5
    obtain ⟨o, e, c, d⟩ := id st'
    exact ⟨_, rfl, go_of (s := { s with heap := h', toks := s.toks + 1 }) e c d (by decide) ⟨.str ⟨#[x.cps[i]]⟩, H, I1, ⟨_, rfl⟩, ⟨rfl, _, hx, rfl⟩, st', fun b hb => (hf b hb).1⟩⟩
  done := by
    intro X hP hw hK hc i pins s σ H E I hf st hg
    subst hP hw hK
    obtain ⟨f0, f1, f2, f3, f4, f5⟩ := hf it (by simp)
    exact wpAny_pyNext_ascii_end (I.ok.hd hc) st (Array.getElem?_eq_none hg) fun h' eb => ⟨rfl, I.turned (t' := s.toks) (fun b o hb e => eb b o hb e) f0 f1 f3 f4 f5⟩
  self := fun _ _ _ _ _ st h => wpAny_pyIter_striter_ascii st h
noncomputable def iStr (te : TE) : TI := fun σ H R => te σ H fun v H1 => ∃ x : Str, v = .str x ∧ x.cps.all (· < 128) = true ∧ R (Its x) H1
theorem pi_str {X : Cx} {tg e : Expr} {te : TE} (he : PE X e te) : PI X tg e (iStr te) := by
  intro pins s σ H R I h
  refine thn (he pins s σ H _ I h) fun v s1 ⟨y, H1, I1, r1, x, ex, ha, q⟩ => ?_
  subst ex
  obtain ⟨t, rfl⟩ := r1
  refine wpAny_pyIter_ascii ha ?_
  refine ⟨s1.heap.objs.size, [s1.heap.objs.size], _, _, H1, rfl, I1.kept (t' := s1.toks) fun b o e => Heap.get?_push_of_some _ e, turn_str _ x t, ⟨_, Heap.get?_push_size _ rfl, rfl, rfl⟩, fun b hb => ?_, q⟩
  have e : b = s1.heap.objs.size := by simpa using hb
  subst e
  exact I1.fpOk (Nat.le_refl _) (I1.hok.fresh (Nat.le_refl _))
theorem bpi_str {X : Cx} {tg e : Expr} {te : TE} (he : Bx (PE X e te)) : Bx (PI X tg e (iStr te)) := ⟨pi_str he.1⟩
theorem for_str {x : Str} {g : TG} {tb : TS} {D : Ends} {σ : St} {H : Hp} (Pv : Nat → St → Hp → Prop) (h0 : Pv 0 σ H)
    (hs : ∀ i c σ H, x.cps.toList[i]? = some c → Pv i σ H → g (.str ⟨#[c]⟩) σ H fun σ2 H2 => tb { D with nx := Pv (i + 1), ct := Pv (i + 1), bk := D.nx } σ2 H2) (hd : ∀ σ H, Pv x.cps.toList.length σ H → D.nx σ H) :
    ∃ W : Nat → Nat → St → Hp → Prop, (∃ m, W 0 m σ H) ∧ ∀ i m σ H, W i m σ H →
      ((Its x).stop i H ∧ D.nx σ H) ∨ ((Its x).go i H ∧ ∃ N : St → Hp → Prop, (∀ σ' H', N σ' H' → ∃ m', m' < m ∧ W (i + 1) m' σ' H') ∧ ∀ y H', (Its x).yld i H y H' → g y σ H' fun σ2 H2 => tb { D with nx := N, ct := N, bk := D.nx } σ2 H2) := by
  have es : x.cps.toList.length = x.cps.size := Array.length_toList
  refine ⟨fun i m σ H => m = x.cps.size - i ∧ i ≤ x.cps.size ∧ Pv i σ H, ⟨x.cps.size, by simp, Nat.zero_le _, h0⟩, ?_⟩
  rintro i m σ H ⟨rfl, hi, p⟩
  by_cases hlt : i < x.cps.size
  · refine .inr ⟨hlt, Pv (i + 1), fun σ' H' p' => ⟨x.cps.size - (i + 1), by omega, rfl, hlt, p'⟩, fun y H' z => ?_⟩
    obtain ⟨e, c, hc, rfl⟩ := z
    subst e
    exact hs i c σ _ (by rw [Array.getElem?_toList]; exact hc) p
  · have e : i = x.cps.size := by omega
    subst e
    exact .inl ⟨Nat.le_refl _, hd σ H (by rw [es]; exact p)⟩
theorem vals_strs : ∀ {zs : List Str} {us : List Value}, Vals (zs.map V.str) us → ∃ l : List (Str × Tok), us = strValues l ∧ l.map (·.1) = zs
  | [], us, h => by
    cases h
    exact ⟨[], rfl, rfl⟩
  | z :: zs, us, h => by
    cases h with
    | cons r t =>
      obtain ⟨tk, rfl⟩ := r
      obtain ⟨l, rfl, rfl⟩ := vals_strs t
      exact ⟨(z, tk) :: l, rfl, rfl⟩
theorem strs_from : ∀ (zs : List Str) (k : Nat), Vals (zs.map V.str) (strsFrom k zs)
  | [], _ => .nil
  | _ :: zs, k => .cons ⟨_, rfl⟩ (strs_from zs (k + 1))
noncomputable def rJoin : V → List V → Hp → VK → Prop := fun x vs H Q => ∃ (sep : Str) (l : Addr) (zs : List Str), x = .str sep ∧ vs = [.ref l] ∧ H l = some (.lst (zs.map V.str)) ∧ 1 ≤ zs.length ∧ (zs.map (·.length)).sum + zs.length * sep.length ≤ 100000 ∧ Q (.str (Str.join sep zs)) H
theorem mt_join {X : Cx} : MtR X "str.join" rJoin := by
  intro pins s σ H x vs v us Q I rx rv h
  obtain ⟨sep, l, zs, rfl, rfl, hH, h2, hz, q⟩ := h
  obtain ⟨tk, rfl⟩ := rx
  obtain ⟨u, rfl, ru⟩ := rv.one
  cases ru
  obtain ⟨z, its, n, r, hl, e⟩ := I.lstM hH
  obtain ⟨ps, rfl, ez⟩ := vals_strs r
  have tl : Builtin.Str.tooLong ((ps.map (·.1)).toArray.foldl (· + ·.length + sep.length) 0) = false := by
    rw [StrLaws.joinTotal, ez]
    have : sizeLine = 16777216 := by decide
    unfold Builtin.Str.tooLong
    rw [decide_eq_false (by omega)]
  refine call_meets F.slot_str_join (typeIs_str s sep tk) F.entry_str_join (F.args_str_join_2 _ _) (meets_str_join_list sep tk l ps tl) ⟨⟨_, e, rfl, n, rfl⟩, ?_⟩
  have lp : ps.length = zs.length := by rw [← ez, List.length_map]
  match ps, lp, ez with
  | p1 :: p2 :: ps, _, ez =>
    show (Made.str (Builtin.Str.glued sep ((p1 :: p2 :: ps).map (·.1)))).post _ s
    rw [ez, StrLaws.glued_eq_join]
    refine ⟨?_, ⟨.str _, H, I.tok _, ⟨_, rfl⟩, q⟩⟩
    have := StrLaws.join_length_le sep zs
    have sl : sizeLine = 16777216 := by decide
    omega
  | [], h, _ => exact absurd h2 (by rw [← h]; decide)
  | [p1], _, ez =>
    rw [← ez] at q
    exact ⟨.str p1.1, H, I, ⟨_, rfl⟩, q⟩
theorem parts_none (z : Str) (k : Nat) : Builtin.Str.partsBetween z [] k = [z] := by
  show [Builtin.Str.strSub z 0 z.length] = [z]
  congr 1
  cases z with
  | mk a => simp [Builtin.Str.strSub, Str.length]
noncomputable def rSplit : V → List V → Hp → VK → Prop := fun x vs H Q => ∃ (z y : Str), x = .str z ∧ vs = [.str y] ∧ (decide (z.length < y.length) || decide (Builtin.Str.strKind z < Builtin.Str.strKind y)) = false ∧ (y.length == 0) = false ∧ z.length ≤ 100000 ∧
  ∀ D, H D = none → Q (.ref D) (upd H D (.lst ((Builtin.Str.partsBetween z (Builtin.Str.occurrences z y 0 z.length (z.length + 1)) y.length).map V.str)))
theorem mt_split {X : Cx} : MtR X "str.split" rSplit := by
  intro pins s σ H x vs v us Q I rx rv h
  obtain ⟨z, y, rfl, rfl, h1, hy, hz, q⟩ := h
  obtain ⟨tk, rfl⟩ := rx
  obtain ⟨u, rfl, ru⟩ := rv.one
  obtain ⟨tu, rfl⟩ := ru
  have sl : sizeLine = 16777216 := by decide
  have hn : (Builtin.Str.partsBetween z (Builtin.Str.occurrences z y 0 z.length (z.length + 1)) y.length).length ≤ sizeLine := by
    rw [length_partsBetween]
    have := StrLaws.occ_length_le z y 0 z.length (z.length + 1)
    omega
  cases hf : (Builtin.Str.occurrences z y 0 z.length (z.length + 1)).isEmpty with
  | true =>
    have e0 : Builtin.Str.occurrences z y 0 z.length (z.length + 1) = [] := List.isEmpty_iff.mp hf
    rw [e0, parts_none] at q
    refine call_meets F.slot_str_split (typeIs_str s z tk) F.entry_str_split (F.args_str_split_2 _ _) (meets_str_split_not_found z y tk tu h1 hy hf) ?_
    refine ⟨.ref s.heap.objs.size, _, I.laid (t' := s.toks) (fun b u e => Heap.get?_push_of_some _ e) (Nat.le_refl _) ?_, rfl, q _ (I.hok.fresh (Nat.le_refl _))⟩
    exact ⟨(by show 1 ≤ sizeLine; decide), _, 0, .cons ⟨_, rfl⟩ .nil, Heap.get?_push_size _ rfl⟩
  | false =>
  refine call_meets F.slot_str_split (typeIs_str s z tk) F.entry_str_split (F.args_str_split_2 _ _) (meets_str_split_sep z y tk tu h1 hy hf (by omega) hn) ?_
  refine ⟨.ref s.heap.objs.size, _, I.laid (fun b u e => Heap.get?_push_of_some _ e) (Nat.le_refl _) ?_, rfl, q _ (I.hok.fresh (Nat.le_refl _))⟩
  exact ⟨by rw [List.length_map]; exact hn, _, 0, strs_from _ _, Heap.get?_push_size _ rfl⟩
theorem mt_index {X : Cx} : MtR X "str.index" (fun x vs H Q => ∃ (z y : Str) (i : Nat) (rest : List Nat), x = .str z ∧ vs = [.str y] ∧ Builtin.Str.occurrences z y 0 z.length 1 = i :: rest ∧ Q (.int (i : Int)) H) := by
  intro pins s σ H x vs v us Q I rx rv h
  obtain ⟨z, y, i, rest, rfl, rfl, h1, q⟩ := h
  obtain ⟨tk, rfl⟩ := rx
  obtain ⟨u, rfl, ru⟩ := rv.one
  obtain ⟨tu, rfl⟩ := ru
  refine call_gives F.slot_str_index (typeIs_str s z tk) F.entry_str_index (F.args_str_index_2 _ _) (gives_str_index z y tk tu i rest h1) ⟨.int _, H, I.tok _, ⟨_, rfl⟩, q⟩
end L2
namespace L2
open PySem PySem.Spec PyProof.Rows
noncomputable def CDivC : Int → Int → Prop := fun _ j => 0 < j ∧ j < 100000000000000000000000000000000000000000
theorem op_fdivC {X : Cx} : OpR X (binaryOp .FloorDiv) (rI CDivC fun i j => .int (i / j)) := opI fun i j _ _ _ _ _ hc q => by
  have h1 : (0 : Int) < j := hc.1
  have h2 : j < 100000000000000000000000000000000000000000 := hc.2
  refine floordiv_int (by omega) (by rw [Int.fdiv_eq_ediv_of_nonneg i (by omega)]; exact q) (.inl (PyProof.noPylong_of_log2 ?_))
  refine Nat.lt_of_lt_of_le ((Nat.log2_lt (by omega)).mpr (?_ : j.natAbs < 2 ^ 140)) (by decide)
  have : (2 : Nat) ^ 140 = 1393796574908163946345982392040522594123776 := by decide +kernel
  omega
end L2
namespace My
open PySem L2
open PySem.Builtin.Str (occurrences partsBetween strSub subAt)
noncomputable def joinL (c : Nat) : List (List Nat) → List Nat
  | [] => []
  | [p] => p
  | p :: q :: r => p ++ c :: joinL c (q :: r)
theorem occ_loop (z : Str) (c lim : Nat) : ∀ (k a : Nat) (st : Array Nat × Nat), st.2 ≤ a → st.1.size + k ≤ lim →
    (forIn (List.range' a k) st (StrLaws.occBody z ⟨#[c]⟩ z.length lim)).run.fst.toList = st.1.toList ++ (List.range' a k).filter fun i => decide (z.cps.toList[i]? = some c)
  | 0, a, st, _, _ => by simp
  | k + 1, a, st, hf, hs => by
    rw [List.range'_succ, List.forIn_cons]
    unfold StrLaws.occBody
    have key := StrLaws.subAt_one z c a
    by_cases h : z.cps.toList[a]? = some c
    · obtain ⟨h1, h2⟩ := key.mpr h
      rw [if_pos ⟨⟨⟨by omega, hf⟩, h1⟩, h2⟩, List.filter_cons_of_pos (by simpa using h)]
      have := occ_loop z c lim k (a + 1) (st.1.push a, a + 1) (Nat.le_refl _) (by simp; omega)
      refine Eq.trans this ?_
      simp
    · rw [if_neg (fun hc => h (key.mp ⟨hc.1.2, hc.2⟩)), List.filter_cons_of_neg (by simpa using h)]
      exact occ_loop z c lim k (a + 1) st (by omega) (by omega)
theorem occ_all (z : Str) (c : Nat) : occurrences z ⟨#[c]⟩ 0 z.length (z.length + 1) = (List.range' 0 (z.length + 1)).filter fun i => decide (z.cps.toList[i]? = some c) := by
  rw [StrLaws.occ_eq]
  have := occ_loop z c (z.length + 1) (z.length + 1) 0 (#[], 0) (Nat.le_refl _) (by simp)
  simpa using this
theorem strSub_at {z : Str} {pre p rest : List Nat} (e : z.cps.toList = pre ++ p ++ rest) : strSub z pre.length (pre.length + p.length) = ⟨p.toArray⟩ := by
  have h := StrLaws.strSub_toList z pre.length (pre.length + p.length)
  rw [e, List.append_assoc, List.drop_left, Nat.add_sub_cancel_left, List.take_left] at h
  cases hs : strSub z pre.length (pre.length + p.length) with
  | mk a =>
    rw [hs] at h
    congr 1
    exact Array.toList_inj.mp (by simpa using h)
theorem filter_none {c : Nat} {L pre p rest : List Nat} (e : L = pre ++ p ++ rest) (hp : c ∉ p) : (List.range' pre.length p.length).filter (fun i => decide (L[i]? = some c)) = [] := by
  refine List.filter_eq_nil_iff.mpr fun i hi => ?_
  have hr := List.mem_range'_1.mp hi
  rw [decide_eq_true_eq, e, List.append_assoc, List.getElem?_append_right (by omega), List.getElem?_append_left (by omega)]
  exact fun z => hp (List.mem_of_getElem? z)
theorem parts_from {z : Str} {c : Nat} : ∀ (parts : List (List Nat)) (pre : List Nat), parts ≠ [] → (∀ p ∈ parts, c ∉ p) → z.cps.toList = pre ++ joinL c parts →
    StrLaws.partsFrom z 1 pre.length ((List.range' pre.length (z.length + 1 - pre.length)).filter fun i => decide (z.cps.toList[i]? = some c)) = parts.map fun p => ⟨p.toArray⟩
  | [], _, h, _, _ => absurd rfl h
  | [p], pre, _, hc, e => by
    have e' : z.cps.toList = pre ++ p ++ [] := by rw [List.append_nil]; exact e
    have hl : z.length = pre.length + p.length := by
      have := congrArg List.length e
      rw [List.length_append] at this
      exact this
    rw [hl, show pre.length + p.length + 1 - pre.length = p.length + 1 by omega, List.range'_1_concat, List.filter_append, filter_none e' (hc p (.head _))]
    rw [List.filter_cons_of_neg (by
      rw [decide_eq_true_eq, List.getElem?_eq_none (by rw [e', List.append_nil, List.length_append]; exact Nat.le_refl _)]
      exact fun z => nomatch z)]
    show [strSub z pre.length z.length] = [_]
    rw [hl, strSub_at e']
  | p :: q :: r, pre, _, hc, e => by
    have e1 : z.cps.toList = pre ++ p ++ (c :: joinL c (q :: r)) := by rw [e, List.append_assoc]; rfl
    have e2 : z.cps.toList = (pre ++ p ++ [c]) ++ joinL c (q :: r) := by rw [e1, List.append_assoc (pre ++ p)]; rfl
    have l2 : (pre ++ p ++ [c]).length = pre.length + p.length + 1 := by rw [List.length_append, List.length_append]; rfl
    have hl : pre.length + p.length + 1 ≤ z.length := by
      have := congrArg List.length e2
      rw [List.length_append, l2] at this
      have h2 : z.cps.toList.length = z.length := rfl
      omega
    have ih := parts_from (q :: r) (pre ++ p ++ [c]) (fun h => nomatch h) (fun s hs => hc s (.tail _ hs)) e2
    rw [l2] at ih
    have split : List.range' pre.length (z.length + 1 - pre.length) = List.range' pre.length p.length ++ (pre.length + p.length) :: List.range' (pre.length + p.length + 1) (z.length + 1 - (pre.length + p.length + 1)) := by
      rw [show z.length + 1 - pre.length = p.length + (z.length + 1 - (pre.length + p.length + 1) + 1) by omega, ← List.range'_append_1, List.range'_succ]
    rw [split, List.filter_append, filter_none e1 (hc p (.head _)), List.filter_cons_of_pos (by
      rw [decide_eq_true_eq, e1, List.getElem?_append_right (by rw [List.length_append]; exact Nat.le_refl _), List.length_append, Nat.sub_self]
      rfl)]
    show strSub z pre.length (pre.length + p.length) :: StrLaws.partsFrom z 1 (pre.length + p.length + 1) _ = _
    rw [ih, strSub_at e1]
    rfl
theorem split_parts {z : Str} {c : Nat} {parts : List (List Nat)} (h : parts ≠ []) (hc : ∀ p ∈ parts, c ∉ p) (e : z.cps.toList = joinL c parts) :
    partsBetween z (occurrences z ⟨#[c]⟩ 0 z.length (z.length + 1)) (⟨#[c]⟩ : Str).length = parts.map fun p => ⟨p.toArray⟩ := by
  rw [occ_all, StrLaws.partsBetween_eq]
  exact parts_from parts [] h hc e
noncomputable def digs (n : Nat) : List Nat := (Nat.toDigits 10 n).map Char.toNat
theorem digit_nat {d : Nat} (h : d < 10) : (Nat.digitChar d).toNat = 48 + d := by
  match d, h with
  | 0, _ | 1, _ | 2, _ | 3, _ | 4, _ | 5, _ | 6, _ | 7, _ | 8, _ | 9, _ => rfl
theorem digs_step (n : Nat) : digs n = if n < 10 then [48 + n] else digs (n / 10) ++ [48 + n % 10] := by
  unfold digs
  by_cases h : n < 10
  · rw [if_pos h, Nat.toDigits_of_lt_base h, List.map_singleton, digit_nat h]
  · rw [if_neg h, Nat.toDigits_of_base_le (by decide) (by omega), List.map_append, List.map_singleton, digit_nat (Nat.mod_lt _ (by decide))]
theorem digs_in (n : Nat) : ∀ c ∈ digs n, 48 ≤ c ∧ c < 58 := by
  induction n using Nat.strongRecOn with
  | _ n ih =>
    rw [digs_step]
    split
    · intro c hc
      rw [List.mem_singleton.mp hc]
      omega
    · intro c hc
      rcases List.mem_append.mp hc with hc | hc
      · exact ih (n / 10) (by omega) c hc
      · rw [List.mem_singleton.mp hc]
        omega
noncomputable def readN (l : List Nat) : Nat := l.foldl (fun a c => a * 10 + (c - 48)) 0
theorem readN_snoc (l : List Nat) (c : Nat) : readN (l ++ [c]) = readN l * 10 + (c - 48) := by
  unfold readN
  rw [List.foldl_append]
  rfl
theorem digs_len (n : Nat) (k : Nat) : n < 10 ^ k → 1 ≤ k → (digs n).length ≤ k := by
  induction k generalizing n with
  | zero => intro _ h; exact absurd h (by decide)
  | succ k ih =>
    intro h _
    rw [digs_step]
    split
    · exact Nat.le_add_left _ _
    · rw [List.length_append, List.length_singleton]
      have h1 : n / 10 < 10 ^ k := by
        rw [Nat.pow_succ] at h
        omega
      have hk : 1 ≤ k := by
        rcases Nat.eq_zero_or_pos k with h0 | h0
        · subst h0
          have : n / 10 < 1 := h1
          omega
        · exact h0
      have := ih (n / 10) h1 hk
      omega
theorem str_digs (n : Nat) : (Str.ofString (toString (n : Int))).cps.toList = digs n := by
  have e : toString (n : Int) = String.ofList (Nat.toDigits 10 n) := by
    show (n : Int).repr = _
    rw [← Nat.repr_eq_ofList_toDigits]
    rfl
  rw [e, Str.ofString_eq_toList]
  simp [digs]
end My
namespace L2
open PySem PySem.Spec PyProof.Rows
section
variable {prog : Program} {w : World} {A : Around} {E : Value → Shared → Prop} {s : Shared} {Ky : Type} [DecidableEq Ky] {knd : HeapKind prog w Ky}
end
end L2
namespace L2
open PySem PySem.Spec PyProof.Rows
section
variable {prog : Program} {w : World} {A : Around} {E : Value → Shared → Prop} {s : Shared}
theorem EntD.at {h h' : Heap} {d : Addr} {es : Array DictEntry} {ep : Nat} (x : EntD h d es ep) (k : ∀ o, h.get? d = some o → h'.get? d = some o) : EntD h' d es ep := let ⟨o, e, r⟩ := x; ⟨o, k o e, r⟩
end
end L2
namespace L2
open PySem PySem.Spec PyProof.Rows
section
variable {prog : Program} {w : World} {A : Around} {E : Value → Shared → Prop} {s : Shared}
end
section
variable {X : Cx} {o : Expr} {td : TE} {p ap cp pos : Pos}
end
section
variable {g : TG} {tt : TT} {te : TE} {n0 : Nat} {cap : List Nat} {σ : St} {Q : VK} {D : Addr} {H1 : Hp}
end
end L2
namespace L2
open PySem PySem.Spec PyProof.Rows
open PySem.W (Dat kqdP kqdPs kqdOk)
section
variable {X : Cx}
open Classical in
end
end L2
namespace L2
open PySem PySem.Spec PyProof.Rows
section
variable {prog : Program} {w : World} {A : Around} {E : Value → Shared → Prop} {s : Shared}
end
section
variable {X : Cx}
noncomputable def rInsert : V → List V → Hp → VK → Prop := fun v vs H Q => ∃ (l : Addr) (xs : List V) (x : Int) (y : V), v = .ref l ∧ vs = [.int x, y] ∧ H l = some (.lst xs) ∧ 0 ≤ x ∧ x ≤ xs.length ∧ xs.length < sizeLine ∧ Q .non (upd H l (.lst (xs.take x.toNat ++ y :: xs.drop x.toNat)))
theorem mt_insert : MtM X "list.insert" rInsert := by
  intro pins s σ H x vs v us Q I rx rv h
  obtain ⟨l, xs, x, y, rfl, rfl, hH, h0, hi, hz, q⟩ := h
  cases rx
  obtain ⟨u, u2, rfl, ru, ry⟩ := rv.two
  obtain ⟨t, rfl⟩ := ru
  obtain ⟨z, its, n, r, hl, e⟩ := I.lstM hH
  have li := r.length
  have fits : ¬ (!Builtin.List.listFitsIndex x) = true := by
    have : x < 2 ^ 63 := by rw [sizeLine_eq] at hz; omega
    simp only [Builtin.List.listFitsIndex, Bool.not_eq_true, Bool.not_eq_false', Bool.and_eq_true, decide_eq_true_eq]
    exact ⟨by omega, this⟩
  have small : its.toArray.size ≤ sizeLine := by rw [List.size_toArray]; omega
  refine call_meets PySem.F.slot_list_insert ⟨_, e, rfl⟩ PySem.F.entry_list_insert (PySem.F.args_list_insert_3 _ _ _) (PySem.AutoListH.list_insert_list_int_val_1 l its.toArray n x t u2 fits small) ⟨e, ?_⟩
  refine ⟨.non, _, I.lset (its' := its.take x.toNat ++ u2 :: its.drop x.toNat) hH e ?_ ((r.take x.toNat).append (.cons ry (r.drop x.toNat))) ?_, rfl, q⟩
  · have hk : (if x < 0 then (x + ((its.toArray.size : Nat) : Int)).toNat else min x.toNat its.toArray.size) = x.toNat := by
      rw [if_neg (by omega), List.size_toArray]
      omega
    show (its.toArray.extract 0 (if x < 0 then _ else _)).push u2 ++ its.toArray.extract (if x < 0 then _ else _) = _
    rw [hk]
    apply Array.toList_inj.mp
    simp [List.extract_eq_take_drop, List.take_of_length_le]
  · rw [List.length_append, List.length_cons, List.length_take, List.length_drop]
    omega
end
end L2
namespace L2
open PySem
end L2
namespace L2
open PySem PySem.Spec PyProof.Rows
noncomputable def rNe0 (K : PySem.W.Frag) : R2 := fun x y H Q => ∃ a b xs, x = .ref a ∧ y = .ref b ∧ SqL K H a xs ∧ SqL K H b [] ∧ Q (.bl (decide (xs ≠ []))) H
section
variable {X : Cx}
theorem op_ne0 (hu : X.A.units + 64 < cLine) : OpR X (compareOp .NotEq) (rNe0 X.K) := by
  intro pins s σ H x y v u Q I rx ry h
  obtain ⟨a, b, xs, rfl, rfl, ha, hb, q⟩ := h
  cases rx
  cases ry
  obtain ⟨its, r1, ⟨⟨c1, dd, data, sl⟩, n1, ho, hc, hd0, hd⟩, _⟩ := I.list ha
  obtain ⟨its2, r2, ⟨⟨c2, dd2, data2, sl2⟩, n2, ho2, hc2, hd02, hd2⟩, _⟩ := I.list hb
  simp only at hc hd hc2 hd2
  subst hc hd hc2 hd2
  have l1 := r1.length
  have l2 := r2.length
  cases its2 with
  | cons z zs => cases l2
  | nil =>
  by_cases e : xs = []
  · subst e
    cases its with
    | cons z zs => cases l1
    | nil =>
    refine richCompare_meets_room (op := .NotEq) ⟨_, ho, rfl⟩ ⟨_, ho2, rfl⟩ PySem.F.slot_list_ne PySem.F.entry_list_ne (PySem.F.args_list_ne_2 _ _) (PySem.SeqAt.list_neAt a b #[] #[] n1 n2 dd dd2 sl sl2 rfl (fun _ => true))
      ⟨ho, ho2, fun j h1 => absurd h1 (Nat.not_lt_zero _), show Value.bool _ ≠ Value.notImplemented ∧ _ from ⟨(fun z => nomatch z), ⟨.bl _, H, I, rfl, q⟩⟩⟩ (by omega)
  · have ne : (its.toArray.size != ([] : List Value).toArray.size) = true := by
      cases its with
      | nil => exact absurd (List.length_eq_zero_iff.mp l1) e
      | cons z zs => simp
    rw [decide_eq_true e] at q
    exact richCompare_meets_room (op := .NotEq) ⟨_, ho, rfl⟩ ⟨_, ho2, rfl⟩ PySem.F.slot_list_ne PySem.F.entry_list_ne (PySem.F.args_list_ne_2 _ _) (PySem.SeqAt.list_ne_lengthsAt a b its.toArray #[] n1 n2 dd dd2 sl sl2 ne)
      ⟨ho, ho2, show Value.bool true ≠ Value.notImplemented ∧ _ from ⟨(fun z => nomatch z), ⟨.bl true, H, I, rfl, q⟩⟩⟩ (by omega)
end
end L2
namespace L2
open PySem PySem.Spec PyProof.Rows
section
variable {prog : Program} {w : World} {A : Around} {E : Value → Shared → Prop} {s : Shared}
end
end L2
namespace L2
open PySem PySem.Spec PyProof.Rows
section
variable {prog : Program} {w : World} {A : Around} {E : Value → Shared → Prop} {s : Shared}
end
end L2
namespace L2
open PySem PySem.Spec PyProof.Rows
section
variable {prog : Program} {w : World} {A : Around} {E : Value → Shared → Prop} {s : Shared}
noncomputable def TAt (h : Heap) (it t : Addr) (i : Nat) (xs : Array Value) : Prop := IsTupIter h it t i ∧ IsTup h t xs
theorem TAt.keep {h h' : Heap} {it t : Addr} {i : Nat} {xs : Array Value} (x : TAt h it t i xs) (k1 : ∀ o, h.get? it = some o → h'.get? it = some o) (k2 : ∀ o, h.get? t = some o → h'.get? t = some o) : TAt h' it t i xs := by
  obtain ⟨⟨o, a, b⟩, o2, c, d⟩ := x
  exact ⟨⟨o, k1 _ a, b⟩, o2, k2 _ c, d⟩
end
section
variable {prog : Program} {w : World} {A : Around} {E : Value → Shared → Prop} {s : Shared}
end
end L2
namespace L2
open PySem
end L2
namespace L2
open PySem PySem.Spec PyProof.Rows
section
variable {X : Cx}
end
end L2
namespace L2
open PySem PySem.Spec PyProof.Rows
section
variable {X : Cx} {tg : Expr}
end
section
end
section
variable {prog : Program} {w : World} {A : Around} {E : Value → Shared → Prop} {s : Shared}
end
end L2
namespace L2
open PySem PySem.Spec PyProof.Rows
section
variable {X : Cx} {pins : List (Addr × Obj)} {σ : St} {H1 : Hp} {s1 s' : Shared} {C S : Addr} {nid nid2 : String} {bB bB2 : List Value} {sx n : Str} {np hpos : Pos} {b₀ : Stmt} {suite : List Stmt} {j : Nat} {ts : TS} {D : Ends} {E' : XK} {e : Value}
end
section
variable {X : Cx} {C S f : Addr} {k : Nat} {fd : FuncData} {ps : List Str} {sp : Sp} {dvs : List V} {ds : List Value} {nid nid2 : String} {bB bB2 : List Value} {fx sx n : Str} {p np hpos cpos epos pos : Pos} {b₀ : Stmt} {suite : List Stmt} {j : Nat} {t : TA} {ts : TS} {e : Expr} {es : List Expr}
end
end L2
namespace L2
open PySem PySem.Spec PyProof.Rows
section
variable {X : Cx}
end
end L2
namespace L2
open PySem PySem.Spec PyProof.Rows
theorem note_same {e : Value} {a b : Env} (h : a.frame = b.frame) : noteFrame e a = noteFrame e b := by
  unfold noteFrame PySem.frameOf
  rw [h]
noncomputable def afterC (X : Cx) (c : Env) (x : Value) (s1 : Shared) : Prop := ∃ m, s1.heap.Ns c.locals m ∧ ∀ h', Heap.SameBut c.locals s1.heap h' →
  wpAny (model X.prog X.w) X.A (passOn "comprehension.variables-let-go" x c : Sem Value) (fun _ _ => False) X.xe { s1 with heap := h' }
noncomputable def postC (X : Cx) (QQ : Value → Shared → Prop) (acc : Value) (c : Env) : Result → Shared → Prop
  | .ok _, s1 => ∃ m, s1.heap.Ns c.locals m ∧ ∀ h', Heap.SameBut c.locals s1.heap h' → QQ acc { s1 with heap := h' }
  | .error x, s1 => afterC X c x s1
theorem compr_own {X : Cx} {s : Shared} {e : Expr} {scope : Scope} {pos : Pos} {mk first : Sem Value} {g : Comprehension} {gs : List Comprehension} {cl : List (Str × Addr)} {QQ : Value → Shared → Prop}
    (ec : clausesOf e = g :: gs) (es : ∀ x, foldedSetIterable g.iter X.env x = pure x) (el : closureFor scope X.env = pure cl) (ek : scope.kind = .function) (en : ∀ y ∈ scope.names, y.2 = .local → scope.names.lookup y.1 = some .local)
    (h : wpAny (model X.prog X.w) X.A first (fun x s1 => wpAny (model X.prog X.w) X.A (pyIter x) (fun it s2 => wpAny (model X.prog X.w) X.A mk (fun acc s3 =>
      wpAny (model X.prog X.w) X.A (newFunctionEnv scope X.env.globals cl [] X.env.qual none .none (some X.env)) (fun c s4 =>
        codeAny (model X.prog X.w) X.A (.compStart e 0 it acc { c with scope := relabel scope X.env }) (postC X QQ acc { c with scope := relabel scope X.env }) s4) X.xe s3) X.xe s2) X.xe s1) X.xe s) :
    wpAny (model X.prog X.w) X.A (comprehension e scope X.env pos mk false first) QQ X.xe s := by
  unfold comprehension
  rw [el, ec]
  refine wpAny_bind (thn h fun x s1 h1 => wpAny_bind (wpAny_standAt (wpAny_bind (wpAny_of_eq (es x) (wpAny_bind (wpAny_holding (thn h1 fun it s2 h2 => ?_)))))))
  refine wpAny_standIf (wpAny_bind (thn h2 fun acc s3 h3 => wpAny_bind (wpAny_pure (wpAny_bind (thn h3 fun c s4 h4 => ?_)))))
  dsimp only
  have kv : ∀ y ∈ (scope.names.filter fun y => (y.2 == .local || y.2 == .cell) && y.1 != (".0" : Str)).reverse, y.2 = .local →
      Env.kindOf { c with scope := relabel scope X.env } y.1 = some .local := fun y hy hl => lookup_relabel_local (en y (List.mem_filter.mp (List.mem_reverse.mp hy)).1 hl)
  refine wpAny_holding (wpAny_bind (wpAny_attempt (wpAny_holding (wpAny_run (codeAny_mono h4 fun r s5 hr => ?_)))))
  cases r with
  | ok f =>
    obtain ⟨m, hn, hq⟩ := hr
    exact wpAny_bind (wpAny_holding (wpAny_comp_letGo (cenv := { c with scope := relabel scope X.env }) ek _ s5 m kv hn fun h' _ _ sb => wpAny_pure (hq h' sb)))
  | error x =>
    obtain ⟨m, hn, hq⟩ := hr
    exact wpAny_bind (wpAny_holding (wpAny_comp_letGo (cenv := { c with scope := relabel scope X.env }) ek _ s5 m kv hn fun h' _ _ sb => wpAny_mono (hq h' sb) (fun _ _ z => z.elim) fun _ _ z => z))
noncomputable abbrev cxCompX (X : Cx) (N : List Str) (scope : Scope) (cl : List (Str × Addr)) (fp : List Addr) (s : Shared) (H : Hp) : Cx :=
  (cxComp X N scope cl fp s H).wish (notedBy (model X.prog X.w) X.A (compEnvC scope cl s.heap.objs.size X.env) (afterC X (compEnvC scope cl s.heap.objs.size X.env)))
noncomputable def OutC (X : Cx) (fp : List Addr) (s : Shared) (H : Hp) : Prop := ∃ pins σ, Inv X pins σ H s ∧ ∀ b ∈ fp, FpOk X pins H b
theorem comp_loopX {prog : Program} {w : World} {A : Around} {R : Result → Shared → Prop} {s : Shared}
    {elt tg iter : Expr} {ifs : List Expr} {scope : Scope} {pos : Pos} {it acc : Value} {env : Env}
    (I : Nat → Shared → Prop)
    (turn : ∀ n s, I n s → wpAny (model prog w) A (pyNext it)
      (fun r s1 => match r with
        | none => R (.ok .next) s1
        | some v => wpAny (model prog w) A (letOwnedTupleGo tg it v) (fun _ s2 =>
            wpAny (model prog w) A (assign tg env v) (fun _ s3 =>
            wpAny (model prog w) A
              (forIn ifs true fun c r => if r = true then do
                  let ok ← isTrue c env (eval c env)
                  pure (ForInStep.yield ok)
                else pure (ForInStep.yield r))
              (fun ok s4 => if ok = true then
                  wpAny (model prog w) A (eval elt env) (fun x s5 =>
                    wpAny (model prog w) A (call (.builtin "list.append") [acc, x])
                      (fun _ s6 => ∃ m, m < n ∧ I m s6) (notedBy (model prog w) A env fun x s1 => R (.error x) s1) s5) (notedBy (model prog w) A env fun x s1 => R (.error x) s1) s4
                else ∃ m, m < n ∧ I m s4) (notedBy (model prog w) A env fun x s1 => R (.error x) s1) s3) (notedBy (model prog w) A env fun x s1 => R (.error x) s1) s2)
            (notedBy (model prog w) A env fun x s1 => R (.error x) s1) s1)
      (notedBy (model prog w) A env fun x s1 => R (.error x) s1) s)
    (n : Nat) (h : I n s) :
    codeAny (model prog w) A (.compLoop (.ListComp elt [⟨tg, iter, ifs, 0⟩] scope pos) 0 it acc env) R s := by
  refine codeAny_loop rfl I (fun n s hI => ?_) n h
  show wpAny _ A ((compTurn _ 0 it acc env).onRaise (fun x => do noteFrame x env; theTreesLotGoes x)) _ _ s
  refine wpAny_noted (E := fun e s' => R (.error e) s') ?_
  rw [compTurn_list]
  refine wpAny_bind (wpAny_standAt (wpAny_bind (wpAny_mono (turn n s hI) (fun r s1 h1 => ?_) fun _ _ z => z)))
  cases r with
  | none => exact wpAny_pure h1
  | some v =>
    refine wpAny_bind (wpAny_mono h1 (fun _ s2 h2 => wpAny_bind (wpAny_mono h2 (fun _ s3 h3 =>
      wpAny_bind (wpAny_mono h3 (fun ok s4 h4 => ?_) fun _ _ z => z)) fun _ _ z => z)) fun _ _ z => z)
    cases ok with
    | false => exact wpAny_pure ⟨rfl, h4⟩
    | true =>
      exact wpAny_bind (wpAny_bind (wpAny_mono h4 (fun x s5 h5 => wpAny_bind (wpAny_mono h5
        (fun _ s6 h6 => wpAny_pure (wpAny_pure ⟨rfl, h6⟩)) fun _ _ z => z)) fun _ _ z => z))

theorem comp_coreX {X : Cx} {elt tg iter : Expr} {ifs : List Expr} {scope : Scope} {pos : Pos} {N : List Str} {n : Nat} {cap : List Nat} {g : TG} {tt : TT} {te : TE}
    {cl : List (Str × Addr)} {E : Value → Shared → Prop} {QQ : Value → Shared → Prop}
    (hc : X.calm = true) (B : Blk X scope N n cap) (c1 : ∀ x c, cl.lookup x = some c → X.env.cells.lookup x = some c) (c2 : ∀ y ∈ scope.names, y.2 = .free → ∃ c, cl.lookup y.1 = some c)
    (hk : KeepG n g) (hg : ∀ cl fp s H, PG (cxCompX X N scope cl fp s H) tg g) (ht : ∀ cl fp s H, PTs (cxCompX X N scope cl fp s H) ifs tt) (he : ∀ cl fp s H, OutC X fp s H → PE (cxCompX X N scope cl fp s H) elt te)
    {pins : List (Addr × Obj)} {σ : St} {Q : VK} {itv : Value} {s2 : Shared}
    (h : PIE X pins σ tg (fun J H1 => ∀ D, H1 D = none → compRun J D n cap σ g tt te Q H1) itv s2)
    (hRR : ∀ (D C : Addr) (H' : Hp) (s' : Shared) (m : Str → Option Value), Inv X pins σ H' s' → FpOk X pins H' C → s'.heap.Ns C m → Q (.ref D) H' → ∀ h', Heap.SameBut C s'.heap h' → QQ (.ref D) { s' with heap := h' }) :
    wpAny (model X.prog X.w) X.A (newList []) (fun acc s3 =>
      wpAny (model X.prog X.w) X.A (newFunctionEnv scope X.env.globals cl [] X.env.qual none .none (some X.env)) (fun cenv s4 =>
        codeAny (model X.prog X.w) X.A (.compStart (.ListComp elt [⟨tg, iter, ifs, 0⟩] scope pos) 0 itv acc { cenv with scope := relabel scope X.env })
          (postC X QQ acc { cenv with scope := relabel scope X.env }) s4) E s3) E s2 := by
  obtain ⟨it, fp, tn, J, H2, e, I2, T, st2, f2, q2⟩ := h
  subst e
  refine wpAny_newObj_type ?_ (by show 0 ≤ sizeLine; decide)
  have hD : H2 s2.heap.objs.size = none := I2.hok.fresh (Nat.le_refl _)
  obtain ⟨W, ⟨m0, w0⟩, turn⟩ := q2 _ hD
  have I3 : Inv X pins σ (upd H2 s2.heap.objs.size (.lst [])) { s2 with heap := s2.heap.push { cls := .type "list", data := .seq ([] : List Value).toArray }, toks := s2.toks } :=
    I2.lnew .nil (by show 0 ≤ sizeLine; decide)
  have st3 : tn 0 (s2.heap.push { cls := .type "list", data := .seq ([] : List Value).toArray }) := T.keep _ _ _ st2 fun b _ o e => Heap.get?_push_of_some _ e
  have obj2 := T.obj _ _ st2
  have fD : ∀ b ∈ fp, b ≠ s2.heap.objs.size := fun b hb => by
    obtain ⟨o, eo, _⟩ := obj2 b hb
    exact Nat.ne_of_lt (Heap.lt_size eo)
  have f3 : ∀ b ∈ fp, FpOk X pins (upd H2 s2.heap.objs.size (.lst [])) b := fun b hb => ⟨by rw [upd_ne (fD b hb)]; exact (f2 b hb).1, (f2 b hb).2⟩
  have go3 : ∀ (s3 : Shared) (H3 : Hp), Inv X pins σ H3 s3 → tn 0 s3.heap → (∀ b ∈ fp, FpOk X pins H3 b) → W 0 m0 H3 →
      wpAny (model X.prog X.w) X.A (newFunctionEnv scope X.env.globals cl [] X.env.qual none .none (some X.env)) (fun cenv s4 =>
        codeAny (model X.prog X.w) X.A (.compStart (.ListComp elt [⟨tg, iter, ifs, 0⟩] scope pos) 0 (.ref it) (.ref s2.heap.objs.size) { cenv with scope := relabel scope X.env })
          (postC X QQ (.ref s2.heap.objs.size) { cenv with scope := relabel scope X.env }) s4) E s3 := by
    intro s3 H3 I3 st3 f3 w0
    refine wpAny_newFunctionEnv B.cell (fun y hy => nomatch hy) (fun h4 n4 sb4 => ?_) B.kind
    have k4 : ∀ b o, s3.heap.get? b = some o → h4.get? b = some o := fun b o e => sb4.extBut b o (Nat.ne_of_lt (Heap.lt_size e)) (Heap.get?_push_of_some _ e)
    have fl3 : ∀ b ∈ fp, b < s3.heap.objs.size := fun b hb => by
      obtain ⟨o, eo, _⟩ := T.obj _ _ st3 b hb
      exact Heap.lt_size eo
    have I4 : Inv (cxCompX X N scope cl fp s3 H3) [] (blockSt n cap σ) H3 { s3 with heap := h4, toks := s3.toks + ([] : List (Str × Value)).length } :=
      (comp_start I3 B c1 c2 f3 fl3 n4 k4).wish _
    have st4 : tn 0 h4 := T.keep _ _ _ st3 fun b _ o e => k4 b o e
    have stat : ∀ {H' : Hp}, (∀ b ∈ fp, H' b = none) → ∀ b ∈ fp, FpOk (cxCompX X N scope cl fp s3 H3) [] H' b := fun hn b hb => by
      obtain ⟨_, a1, a2, _, a4, _⟩ := f3 b hb
      refine ⟨hn b hb, Nat.ne_of_lt (fl3 b hb), fun z => ?_, .inl hb, fun x c e => a4 x c (c1 x c e), fun p hp => nomatch hp⟩
      rcases List.mem_cons.mp (I3.stkSub b z) with e | e
      · exact a1 e
      · exact a2 e
    have loop : ∀ s5 : Shared, s5 = { s3 with heap := h4, toks := s3.toks + ([] : List (Str × Value)).length } →
        codeAny (model X.prog X.w) X.A (.compLoop (.ListComp elt [⟨tg, iter, ifs, 0⟩] scope pos) 0 (.ref it) (.ref s2.heap.objs.size) (compEnvC scope cl s3.heap.objs.size X.env))
          (postC X QQ (.ref s2.heap.objs.size) (compEnvC scope cl s3.heap.objs.size X.env)) s5 := by
      rintro s5 rfl
      refine comp_loopX (fun k s' => ∃ i H', Inv (cxCompX X N scope cl fp s3 H3) [] (blockSt n cap σ) H' s' ∧ tn i s'.heap ∧ (∀ b ∈ fp, H' b = none) ∧ W i k H') ?_ m0
        ⟨0, H3, I4, st4, fun b hb => (f3 b hb).1, w0⟩
      rintro k s6 ⟨i, H6, I6, st6, fr6, w6⟩
      rcases turn i k H6 w6 with ⟨stop, qn⟩ | ⟨go, N6, hN6, step⟩
      · refine thn (T.done (cxCompX X N scope cl fp s3 H3) rfl rfl rfl hc i [] s6 _ H6 _ I6 (stat fr6) st6 stop) fun r s7 ⟨hr, I7⟩ => ?_
        subst hr
        obtain ⟨J7, C7, m7, n7⟩ := comp_end I3 I7.unwish f3
        exact ⟨m7, n7, hRR _ _ H6 s7 m7 J7 C7 n7 qn⟩
      · refine thn (T.item (cxCompX X N scope cl fp s3 H3) rfl rfl rfl hc i [] s6 _ H6 _ I6 (stat fr6) st6 go) fun r s7 ⟨u, hr, h7⟩ => ?_
        subst hr
        refine thn h7 fun _ s8 ⟨x, H8, I8, r8, y8, st8, fr8⟩ => ?_
        have I8' := I8.pinned (stat fr8) (T.obj _ _ st8)
        refine thn (hg cl fp s3 H3 _ s8 _ H8 x u _ I8' r8 (hk _ _ _ _ (step x H8 y8))) fun _ s9 ⟨σ9, H9, I9, q9, l9, k9⟩ => ?_
        refine thn (ht cl fp s3 H3 _ s9 σ9 H9 _ I9 q9) fun b s10 ⟨H10, I10, q10⟩ => ?_
        have wk : ∀ (z : Nat) v, (blockSt n cap σ)[z]? = some (some v) → σ9[z]? = some (some v) := fun z v e => by
          obtain ⟨kk, j, rfl, _, _⟩ := blk_get e
          rw [k9 _ (Nat.le_add_right _ _)]
          exact e
        have back : ∀ {Ha : Hp} {sa : Shared} {j : Nat}, Inv (cxCompX X N scope cl fp s3 H3) ([] ++ pinsAt fp s8.heap) σ9 Ha sa → W (i + 1) j Ha →
            ∃ i H', Inv (cxCompX X N scope cl fp s3 H3) [] (blockSt n cap σ) H' sa ∧ tn i sa.heap ∧ (∀ b ∈ fp, H' b = none) ∧ W i j H' := fun {Ha sa j} Ia wa => by
          refine ⟨i + 1, Ha, (Ia.unpinned).weak l9.symm wk, T.keep _ _ _ st8 fun b hb o e => (Ia.pin (b, o) (List.mem_append_right _ (List.mem_append_right _ (mem_pinsAt hb e)))).1, fun b hb => ?_, wa⟩
          obtain ⟨o, e, d⟩ := T.obj _ _ st8 b hb
          exact (Ia.pin (b, o) (List.mem_append_right _ (List.mem_append_right _ (mem_pinsAt hb e)))).2.1
        cases b with
        | false =>
          rw [if_neg Bool.false_ne_true] at q10 ⊢
          obtain ⟨m', hm, w'⟩ := hN6 _ q10
          exact ⟨m', hm, back I10 w'⟩
        | true =>
          rw [if_pos rfl] at q10 ⊢
          refine thn (he cl fp s3 H3 ⟨pins, σ, I3, f3⟩ _ s10 σ9 H10 _ I10 q10) fun y s11 ⟨yv, H11, I11, r11, q11⟩ => ?_
          obtain ⟨xs, eD, hl, q11⟩ := q11
          obtain ⟨m', hm, w'⟩ := hN6 _ q11
          refine thn (mt_append _ s11 σ9 H11 (.ref s2.heap.objs.size) [yv] (.ref s2.heap.objs.size) [y] (fun _ Hz => Hz = upd H11 s2.heap.objs.size (.lst (xs ++ [yv]))) I11 rfl (.cons r11 .nil)
            ⟨_, xs, yv, rfl, rfl, eD, hl, rfl⟩) fun _ s12 ⟨_, H12, I12, _, e12⟩ => ?_
          subst e12
          exact ⟨m', hm, back I12 w'⟩
    exact codeAny_compStart_list (loop _ rfl) (T.self _ _ _ _ _ st4 (loop _ rfl))
  exact go3 _ _ I3 st3 f3 w0


section
variable {X : Cx} {elt tg iter : Expr} {ifs : List Expr} {scope : Scope} {pos : Pos} {N : List Str} {n : Nat} {cap : List Nat} {wi : TI} {g : TG} {tt : TT} {te : TE}
theorem pe_compX (hc : X.calm = true) (B : Blk X scope N n cap) (hi : PI X tg iter wi) (hk : KeepG n g)
    (hg : ∀ cl fp s H, PG (cxCompX X N scope cl fp s H) tg g) (ht : ∀ cl fp s H, PTs (cxCompX X N scope cl fp s H) ifs tt) (he : ∀ cl fp s H, OutC X fp s H → PE (cxCompX X N scope cl fp s H) elt te)
    (hs : ∀ x, foldedSetIterable iter X.env x = pure x := by intro _; rfl) : PE X (.ListComp elt [⟨tg, iter, ifs, 0⟩] scope pos) (tComp n cap wi g tt te) := by
  intro pins s σ H Q I h
  obtain ⟨cl, ecl, c1, c2⟩ := closure_ok (scope := scope) (env := X.env) fun y hy k => I.ok.has y.1 (B.free y hy k)
  rw [eval_ListComp]
  refine compr_own rfl hs ecl B.kind B.names ?_
  refine thn (hi pins s σ H _ I h) fun v s1 h1 => thn h1 fun itv s2 h2 => ?_
  refine comp_coreX (QQ := EP X pins σ Q) hc B c1 c2 hk hg ht he h2 fun D C H' s' m J f nn q h' sb => ?_
  exact ⟨.ref D, H', J.turned (t' := s'.toks) (fun b o hb e => sb.extBut b o hb e) f.1 f.2.1 f.2.2.2.1 f.2.2.2.2.1 f.2.2.2.2.2, rfl, q⟩
end
theorem Un.leftX {fs ex : List Addr} {H H' : Hp} {h h' h'' : Heap} (u : Un fs ex H H' h h') (k : ∀ b o ob, b ∉ fs → b ∉ ex → h.get? b = some ob → h'.get? b = some o → h''.get? b = some o)
    (ks : ∀ b o, b ∈ fs → h'.get? b = some o → ∃ sl, h''.get? b = some { o with slots := sl }) : Un fs ex H H' h h'' := by
  refine ⟨fun b o e n hb hx => k b o o hb hx e (u.keep b o e n hb hx), fun b o e n hb hx => ?_, u.free, fun b o e hx => ?_, u.tups, u.frzs, u.tbls⟩
  · obtain ⟨sl, q⟩ := u.slot b o e n hb hx
    obtain ⟨sl', q'⟩ := ks b _ hb q
    exact ⟨sl', q'⟩
  · obtain ⟨o', q⟩ := u.there b o e hx
    by_cases hb : b ∈ fs
    · obtain ⟨sl, q'⟩ := ks b o' hb q
      exact ⟨_, q'⟩
    · exact ⟨o', k b o' o hb hx e q⟩
section
variable {P : Program} {w : World} {K : PySem.W.Frag} {mg : Str → Option Value} {base : Heap} {N : List Str} {qual : Str} {scope : Scope} {f C : Addr} {cd : Value} {A : Around} {outer : List Env} {s : Shared} {H : Hp} {E : XK}
theorem passCompC {N' : List Str} {scope' : Scope} {cl : List (Str × Addr)} {fp : List Addr} {s3 : Shared} {H3 : Hp} (o : OutC (cxOf (CXC P w (.ref C)) P w K mg base N qual scope f cd A outer s H E) fp s3 H3) :
    Passes (CXC P w (.ref C)) (cxCompX (cxOf (CXC P w (.ref C)) P w K mg base N qual scope f cd A outer s H E) N' scope' cl fp s3 H3) E := by
  intro pins σ H1 s1 e s' I cx
  obtain ⟨pins0, σ0, I0, f0⟩ := o
  obtain ⟨x, H', rfl, hos, hb, un, ok, ⟨newx, hx, T, a0, oe, vs, oT, ts, ex, ec, ed, e1, nT, hT, Tx, eT, edT, e3⟩, q⟩ := cx
  have IB := I.call' hos un ok hb (fun b z => absurd z (by simp))
  have u : Un (frs (envOfC qual scope s.heap.objs.size f cd :: outer)) fp H3 H' s3.heap s'.heap := IB.base
  have u1 : Un (frs (envOfC qual scope s.heap.objs.size f cd :: outer)) fp H3 H1 s3.heap s1.heap := I.base
  have fr0 : s1.heap.FunFrames base (envOfC qual scope s.heap.objs.size f cd :: outer) := I.stack
  have frf : ∀ b ∈ frs (envOfC qual scope s.heap.objs.size f cd :: outer), H1 b = none := I.stkFree
  obtain ⟨B, hB⟩ := heap_without s'.heap (x :: T :: s3.heap.objs.size :: frs (envOfC qual scope s.heap.objs.size f cd :: outer))
  have frs' : ∀ b ∈ frs (envOfC qual scope s.heap.objs.size f cd :: outer), H' b = none := IB.stkFree
  have fl : s'.heap.FunFrames B (envOfC qual scope s.heap.objs.size f cd :: outer) :=
    funFrames_of fr0 (fun b z o ho => un.slot b o ho (frf b z) z (by simp)) fun b z => (hB b).1 (.tail _ (.tail _ (.tail _ z)))
  have st : B.StaysIn s'.heap := fun b o hb => by
    by_cases z : b ∈ x :: T :: s3.heap.objs.size :: frs (envOfC qual scope s.heap.objs.size f cd :: outer)
    · rw [(hB b).1 z] at hb; cases hb
    · rw [(hB b).2 z] at hb; exact hb
  show wpAny _ _ (noteFrame (.ref x) (compEnvC scope' cl s3.heap.objs.size (envOfC qual scope s.heap.objs.size f cd))) _ _ s'
  rw [note_same (a := compEnvC scope' cl s3.heap.objs.size (envOfC qual scope s.heap.objs.size f cd)) (b := envOfC qual scope s.heap.objs.size f cd) rfl]
  refine wpAny_noteFrame_onW (base := B) (cls := .ref C) (a0 := a0) I.ok.frames fl rfl ⟨oe, vs, T, oT, ts, ex, ec, ed, e1, (hB T).1 (.tail _ (.head _)), Tx, eT, edT, e3⟩ st ((hB x).1 (.head _)) fun h1 ⟨k1, k2, k3, k4⟩ => ?_
  obtain ⟨m, hn, _⟩ := IB.loc
  have hn1 : h1.Ns s3.heap.objs.size m := Heap.UpToSlots.ns k4 hn
  refine ⟨m, hn1, fun h2 sb => ?_⟩
  have nof : ∀ {b : Addr} {ob : Obj} {ws : Array Value}, h1.get? b = some ob → ob.data = .fields ws → b ≠ s3.heap.objs.size := fun {b ob ws} eb db z => by
    obtain ⟨o2, es, ep, ho, hd, _⟩ := hn1
    rw [← z, eb] at ho
    cases ho
    rw [db] at hd
    cases hd
  have same : ∀ b, b ≠ s3.heap.objs.size → h2.get? b = h1.get? b := fun b hb => sb.2 b hb
  have st2 : B.StaysIn h2 := fun b o eb => by
    rw [same b fun z => by rw [z, (hB _).1 (.tail _ (.tail _ (.head _)))] at eb; cases eb]
    exact k1 b o eb
  have fC : ∀ b ∈ frs (envOfC qual scope s.heap.objs.size f cd :: outer), b ≠ s3.heap.objs.size := fun b z y => by
    obtain ⟨_, o2, h2', _⟩ := I0.stack.mem z
    exact absurd (Heap.lt_size h2') (by rw [y]; exact Nat.lt_irrefl _)
  have fl2 : h2.FunFrames B (envOfC qual scope s.heap.objs.size f cd :: outer) := funFrames_of k2 (fun b z o ho => ⟨o.slots, by rw [same b (fC b z)]; exact ho⟩) fun b z => (hB b).1 (.tail _ (.tail _ (.tail _ z)))
  have tr2 : h2.TracedAtW B x (.ref C) a0 (rawInt s.heap.objs.size) := by
    obtain ⟨oe1, vs1, T1, oT1, ts1, ex1, ec1, ed1, e11, nT1, Tx1, eT1, edT1, e31⟩ := k3
    exact ⟨oe1, vs1, T1, oT1, ts1, by rw [same _ (nof ex1 ed1)]; exact ex1, ec1, ed1, e11, nT1, Tx1, by rw [same _ (nof eT1 edT1)]; exact eT1, edT1, e31⟩
  obtain ⟨oe1, vs1, T1, oT1, ts1, ex1, ec1, ed1, e11, nT1, Tx1, eT1, edT1, e31⟩ := id tr2
  show wpAny _ _ (passOn _ (.ref x) _) _ _ { s' with heap := h2 }
  unfold PySem.passOn
  refine wpAny_bind (wpAny_field ex1 ed1 e11 ?_)
  rw [if_neg (show ¬ ((Value.ref T1 == Value.none) = true) from by simp)]
  have fin : wpAny (model P w) (A.deeper (envOfC qual scope s.heap.objs.size f cd)) (leaving (envOfC qual scope s.heap.objs.size f cd) (.ref x)) (fun _ s'' => CXC P w (.ref C) outer H s E (.ref x) s'') (fun e' s'' => CXC P w (.ref C) outer H s E e' s'') { s' with heap := h2 } := by
    unfold leaving
    refine wpAny_bind (wpAny_noteFrame_againW (L := s.heap.objs.size) rfl tr2 ?_)
    refine wpAny_setFlight_noneW (base := B) (l := envOfC qual scope s.heap.objs.size f cd :: outer) st2 fl2 tr2 fun h3 j1 j2 j3 j4 => ?_
    have k : ∀ b o, b ∉ s3.heap.objs.size :: frs (envOfC qual scope s.heap.objs.size f cd :: outer) → b ≠ x → b ≠ T → s'.heap.get? b = some o → h3.get? b = some o := fun b o n1 n2 n3 eb => j1 b o (by
      rw [(hB b).2 fun z => by
        rcases List.mem_cons.mp z with z | z
        · exact n2 z
        · rcases List.mem_cons.mp z with z | z
          · exact n3 z
          · exact n1 z]
      exact eb)
    have ks : ∀ b o, b ∈ frs (envOfC qual scope s.heap.objs.size f cd :: outer) → s'.heap.get? b = some o → ∃ sl, h3.get? b = some { o with slots := sl } := fun b o z eb => by
      have nf : ∀ ws, o.data ≠ .fields ws := by
        obtain ⟨_, o2, h2', h3'⟩ := fl.mem z
        rw [eb] at h2'
        cases h2'
        exact h3'
      obtain ⟨sl, y⟩ := k4 b o eb nf
      exact ⟨sl, j4 b _ ((same b (fC b z)).trans y) nf⟩
    have un4 : Un (frs (envOfC qual scope s.heap.objs.size f cd :: outer)) fp H3 H' s3.heap h3 := u.leftX (fun b o ob nb nx eb eo => by
      obtain ⟨o1, e1'⟩ := u1.there b ob eb nx
      refine k b o (fun z => ?_) (fun z => ?_) (fun z => ?_) eo
      · rcases List.mem_cons.mp z with z | z
        · exact absurd (Heap.lt_size eb) (by rw [z]; exact Nat.lt_irrefl _)
        · exact nb z
      · rw [z, newx] at e1'; cases e1'
      · rw [z, nT] at e1'; cases e1') ks
    have ok4 : HOk P w H' h3 := ok.left (fun b z => by
      rcases List.mem_cons.mp z with z | z
      · rw [z]; exact IB.free
      · exact frs' b z) hx hT k
    have J := I0.call' (s' := { s' with heap := h3 }) (ch := fp) IB.os un4 ok4 hb fun b z => by
      obtain ⟨_, c1, _, c3, c4, c5⟩ := f0 b z
      exact ⟨c3, c1, c4, c5⟩
    have n0 : ∀ {b : Addr}, s1.heap.get? b = none → s.heap.get? b = none := fun {b} z => by
      cases y : s.heap.get? b with
      | none => rfl
      | some ob =>
        obtain ⟨o', y'⟩ := I0.base.there b ob y (by show b ∉ []; simp)
        obtain ⟨o'', y''⟩ := u1.there b o' y' fun hm => by
          rcases (f0 b hm).2.2.2.1 with z | z
          · exact nomatch z
          · exact absurd (Heap.lt_size y) (Nat.not_lt.mpr z)
        rw [z] at y''
        cases y''
    have nC : s.heap.get? s3.heap.objs.size = none := by
      cases y : s.heap.get? s3.heap.objs.size with
      | none => rfl
      | some ob => exact absurd (Heap.lt_size y) (Nat.not_lt.mpr I0.sz)
    obtain ⟨oe3, vs3, T3, oT3, ts3, ex3, ec3, ed3, e13, nT3, Tx3, eT3, edT3, e33⟩ := j3
    have gT : s.heap.get? T3 = none ∧ H' T3 = none := by
      by_cases z : T3 ∈ x :: T :: s3.heap.objs.size :: frs (envOfC qual scope s.heap.objs.size f cd :: outer)
      · rcases List.mem_cons.mp z with z | z
        · exact absurd z Tx3
        rcases List.mem_cons.mp z with z | z
        · rw [z]; exact ⟨n0 nT, hT⟩
        rcases List.mem_cons.mp z with z | z
        · rw [z]; exact ⟨nC, IB.free⟩
        · obtain ⟨_, o2, h2', h3'⟩ := j2.mem z
          rw [eT3] at h2'
          cases h2'
          exact absurd edT3 (h3' _)
      · have z' : s'.heap.get? T3 = none := by rw [← (hB T3).2 z]; exact nT3
        refine ⟨n0 ?_, get_none_free ok z'⟩
        cases y : s1.heap.get? T3 with
        | none => rfl
        | some ob =>
          obtain ⟨o', y'⟩ := un.there T3 ob y (by simp)
          rw [z'] at y'
          cases y'
    exact ⟨x, H', rfl, J.os, hb, J.base, ok4, ⟨n0 newx, hx, T3, a0, oe3, vs3, oT3, ts3, ex3, ec3, ed3, e13, gT.1, gT.2, Tx3, eT3, edT3, e33⟩, q⟩
  have step : wpAny (model P w) (A.deeper (envOfC qual scope s.heap.objs.size f cd)) (setFlight (.ref x) (some s.heap.objs.size)) (fun _ s'' => wpAny (model P w) (A.deeper (envOfC qual scope s.heap.objs.size f cd)) (throw (.ref x) : Sem Value) (fun _ _ => False) (cxOf (CXC P w (.ref C)) P w K mg base N qual scope f cd A outer s H E).xe s'') (cxOf (CXC P w (.ref C)) P w K mg base N qual scope f cd A outer s H E).xe { s' with heap := h2 } := by
    unfold setFlight
    refine wpAny_bind (wpAny_field ex1 ed1 e11 ?_)
    rw [if_pos (show (Value.ref T1 != Value.none) = true from by simp)]
    show wpAny _ _ (setField (.ref T1) 3 (rawInt s.heap.objs.size)) _ _ _
    refine wpAny_setField eT1 edT1 (Array.getElem?_eq_some_iff.mp e31).1 ?_
    show wpAny _ _ _ _ _ { s' with heap := h2.update T1 (Obj.mapFields (·.setIfInBounds 3 (rawInt s.heap.objs.size))) }
    rw [Heap.update_setField_same h2 T1 oT1 ts1 3 (rawInt s.heap.objs.size) eT1 edT1 e31]
    exact wpAny_throw fin
  first
    | exact wpAny_bind (wpAny_pure (wpAny_bind step))
    | exact wpAny_bind step
end
theorem bpe_compX {X : Cx} {elt tg iter : Expr} {ifs : List Expr} {scope : Scope} {pos : Pos} {N : List Str} {n : Nat} {cap : List Nat} {wi : TI} {g : TG} {tt : TT} {te : TE} (hc : X.calm = true) (B : Blk X scope N n cap) (hi : Bx (PI X tg iter wi)) (hk : KeepG n g)
    (hg : ∀ cl fp s H, Bx (PG (cxCompX X N scope cl fp s H) tg g)) (ht : ∀ cl fp s H, Bx (PTs (cxCompX X N scope cl fp s H) ifs tt)) (he : ∀ cl fp s H, OutC X fp s H → Bx (PE (cxCompX X N scope cl fp s H) elt te))
    (hs : ∀ x, foldedSetIterable iter X.env x = pure x := by intro _; rfl) : Bx (PE X (.ListComp elt [⟨tg, iter, ifs, 0⟩] scope pos) (tComp n cap wi g tt te)) :=
  ⟨pe_compX hc B hi.1 hk (fun a b c d => (hg a b c d).1) (fun a b c d => (ht a b c d).1) (fun a b c d o => (he a b c d o).1) hs⟩
end L2
namespace L2
open PySem PySem.Spec PyProof.Rows
section
variable {X : Cx}
theorem mem_picked {x : Str} {l : List Nat} {c : Nat} (h : c ∈ l.filterMap (x.cps[·]?)) : c ∈ x.cps.toList := by
  obtain ⟨i, _, e⟩ := List.mem_filterMap.mp h
  rw [← Array.getElem?_toList] at e
  exact List.mem_of_getElem? e
noncomputable def rSlS : V → Option Int → Option Int → Hp → VK → Prop := fun x _ _ H Q => ∃ z : Str, x = .str z ∧ z.length ≤ sizeLine ∧ ∀ y : Str, y.length ≤ z.length → (∀ c ∈ y.cps.toList, c ∈ z.cps.toList) → Q (.str y) H
theorem sl_str : SlR X rSlS := by
  intro pins s σ H x v vl vu lo hi sl Q I rx hs pl pu h
  obtain ⟨z, rfl, hz, q⟩ := h
  obtain ⟨t, rfl⟩ := rx
  have part : ∀ {v : Value} {o : Option Int}, IsPart v o → ∃ p : Option (Int × Tok), v = partValue p := fun {v o} p => by
    cases p with
    | none => exact ⟨none, rfl⟩
    | int i t => exact ⟨some (i, t), rfl⟩
  obtain ⟨p1, e1⟩ := part pl
  obtain ⟨p2, e2⟩ := part pu
  subst e1 e2
  refine ⟨"str", _, F.slot_str_getitem.lookup, typeIs_str s z t, ?_⟩
  refine wpAny_getItem_str_slice (l := p1) (u := p2) (st := none) (by
    obtain ⟨o, h1, h2, h3⟩ := hs
    exact ⟨o, h1, h2, h3⟩) rfl ?_
  unfold sliceMade
  split
  · exact ⟨.str z, H, I, ⟨_, rfl⟩, q z (Nat.le_refl _) fun _ hc => hc⟩
  · have hl : (⟨((slicePicked z p1 p2 none).filterMap (z.cps[·]?)).toArray⟩ : Str).length ≤ z.length := by
      show ((slicePicked z p1 p2 none).filterMap (z.cps[·]?)).toArray.size ≤ _
      rw [List.size_toArray]
      exact Nat.le_trans (List.length_filterMap_le _ _) (PySem.sliceIndices_le _ _ _)
    exact ⟨Nat.le_trans hl hz, ⟨.str _, H, I.tok _, ⟨_, rfl⟩, q _ hl fun c hc => mem_picked (by simpa using hc)⟩⟩
noncomputable def repS (z : Str) (n : Nat) : Str := ⟨(List.replicate n z.cps).foldl (· ++ ·) #[]⟩
theorem op_mul_str : OpR X (binaryOp .Mult) (fun x y H Q => ∃ (z : Str) (n : Int), x = .str z ∧ y = .int n ∧ 1 < n ∧ n ≤ 1000 ∧ z.length = 1 ∧ (repS z n.toNat).length ≤ 1000 ∧ Q (.str (repS z n.toNat)) H) := by
  intro pins s σ H x y v u Q I rx ry h
  obtain ⟨z, n, rfl, rfl, n1, n2, hz, hl, q⟩ := h
  obtain ⟨t, rfl⟩ := rx
  obtain ⟨t', rfl⟩ := ry
  have a1 : ¬ n < 1 := by omega
  have a2 : (n == 1 || z.length == 0) = false := by
    rw [hz]
    have : (n == 1) = false := by simp; omega
    rw [this]
    rfl
  refine PySem.P.mul_str (by rw [decide_eq_false (by omega), decide_eq_false (by omega)]; rfl) (fun _ _ => by
    rw [hz]
    have : (1 : Int) ≤ (2 ^ 63 - 1) / n := Int.le_ediv_of_mul_le (by omega) (by omega)
    omega) (fun _ _ => by
    unfold Builtin.Str.tooLong
    rw [hz, sizeLine_eq, decide_eq_false (by omega)]) ?_
  rw [if_neg a1, if_neg (ne_true_of_eq_false a2)]
  exact ⟨by rw [sizeLine_eq]; show (repS z n.toNat).length ≤ _; omega, ⟨.str _, H, I.tok _, ⟨_, rfl⟩, q⟩⟩
theorem call_intT : CallR X (.type "int") (fun xs H Q => ∃ (z : Str), xs = [.str z] ∧ (∀ c ∈ z.cps.toList, 48 ≤ c ∧ c ≤ 57) ∧ z.cps.toList ≠ [] ∧ z.length ≤ 640 ∧ Q (.int ((z.cps.toList.foldl (fun a c => a * 10 + (c - 48)) 0 : Nat) : Int)) H) := by
  intro pins s σ H xs us Q I r h
  obtain ⟨z, rfl, hd, hn, hl, q⟩ := h
  obtain ⟨u, rfl, ru⟩ := r.one
  obtain ⟨t, rfl⟩ := ru
  exact PySem.W.KIN.call_text (PySem.intText_digits hd hn (by omega)) hl ⟨.int _, H, I.tok _, ⟨_, rfl⟩, q⟩
end
noncomputable def cutL (c : Nat) : List Nat → List (List Nat)
  | [] => [[]]
  | a :: l => if a = c then [] :: cutL c l else match cutL c l with
    | [] => [[a]]
    | p :: ps => (a :: p) :: ps
theorem cutL_ne (c : Nat) : ∀ l, cutL c l ≠ []
  | [] => fun z => nomatch z
  | a :: l => by
    unfold cutL
    split
    · exact fun z => nomatch z
    · split <;> exact fun z => nomatch z
theorem cutL_clean (c : Nat) : ∀ l, ∀ p ∈ cutL c l, c ∉ p
  | [], p, hp => by
    rw [List.mem_singleton.mp hp]
    exact fun z => nomatch z
  | a :: l, p, hp => by
    have ih := cutL_clean c l
    unfold cutL at hp
    split at hp
    · rcases List.mem_cons.mp hp with e | hp
      · rw [e]; exact fun z => nomatch z
      · exact ih p hp
    · rename_i ne
      split at hp
      · rw [List.mem_singleton.mp hp]
        exact fun z => ne (List.mem_singleton.mp z).symm
      · rename_i q qs e
        rcases List.mem_cons.mp hp with e2 | hp
        · rw [e2]
          intro z
          rcases List.mem_cons.mp z with z | z
          · exact ne z.symm
          · exact ih q (by rw [e]; exact .head _) z
        · exact ih p (by rw [e]; exact .tail _ hp)
theorem cutL_join (c : Nat) : ∀ l, My.joinL c (cutL c l) = l
  | [] => rfl
  | a :: l => by
    have ih := cutL_join c l
    have ne := cutL_ne c l
    unfold cutL
    split
    · rename_i e
      subst e
      cases h : cutL a l with
      | nil => exact absurd h ne
      | cons q qs =>
        rw [h] at ih
        show [] ++ a :: My.joinL a (q :: qs) = _
        rw [ih]
        rfl
    · cases h : cutL c l with
      | nil => exact absurd h ne
      | cons q qs =>
        rw [h] at ih
        show My.joinL c ((a :: q) :: qs) = _
        cases qs with
        | nil =>
          show a :: q = _
          rw [show q = l from ih]
        | cons r rs =>
          show (a :: q) ++ c :: My.joinL c (r :: rs) = _
          rw [← ih]
          rfl
section
variable {X : Cx}
theorem mt_splitA : MtR X "str.split" (fun x vs H Q => ∃ (z : Str) (c : Nat) (y : Str), x = .str z ∧ vs = [.str y] ∧ y = ⟨#[c]⟩ ∧ Builtin.Str.strKind y = 1 ∧ z.length ≤ 100000 ∧
    ∀ D, H D = none → Q (.ref D) (upd H D (.lst ((cutL c z.cps.toList).map fun p => V.str ⟨p.toArray⟩)))) := by
  intro pins s σ H x vs v us Q I rx rv h
  obtain ⟨z, c, y, rfl, rfl, ey, hy, hz, q⟩ := h
  by_cases h0 : z.length = 0
  · obtain ⟨tk, rfl⟩ := rx
    obtain ⟨u, rfl, ru⟩ := rv.one
    obtain ⟨tu, rfl⟩ := ru
    have e0 : z.cps.toList = [] := List.length_eq_zero_iff.mp (by rw [Array.length_toList]; exact h0)
    have ez : z = ⟨([] : List Nat).toArray⟩ := by
      cases z with
      | mk a => congr 1; exact Array.toList_inj.mp (by simpa using e0)
    rw [e0] at q
    have y1 : y.length = 1 := by rw [ey]; rfl
    refine call_meets F.slot_str_split (typeIs_str s z tk) F.entry_str_split (F.args_str_split_2 _ _) (meets_str_split_cannot_occur z y tk tu (by rw [h0, y1]; rfl)) ?_
    refine ⟨.ref s.heap.objs.size, _, I.laid (t' := s.toks) (fun b u e => Heap.get?_push_of_some _ e) (Nat.le_refl _) ?_, rfl, q _ (I.hok.fresh (Nat.le_refl _))⟩
    exact ⟨(by show 1 ≤ sizeLine; decide), _, 0, .cons (show RelV (.str ⟨([] : List Nat).toArray⟩) (.str z tk) from ⟨tk, by rw [ez]⟩) .nil, Heap.get?_push_size _ rfl⟩
  · refine mt_split pins s σ H _ _ v us Q I rx rv ⟨z, y, rfl, rfl, ?_, by rw [ey]; rfl, hz, fun D hD => ?_⟩
    · have h2 : 1 ≤ Builtin.Str.strKind z := by
        unfold Builtin.Str.strKind
        split
        · decide
        · split <;> decide
      have h3 : y.length = 1 := by rw [ey]; rfl
      rw [hy, h3, decide_eq_false (by omega), decide_eq_false (by omega)]
      rfl
    · subst ey
      rw [My.split_parts (z := z) (c := c) (parts := cutL c z.cps.toList) (cutL_ne _ _) (cutL_clean _ _) (cutL_join _ _).symm, List.map_map]
      exact q D hD
variable {D : Addr} {n0 : Nat} {cap : List Nat} {σ : St} {g : TG} {tt : TT} {te : TE} {Q : VK} {H1 : Hp}
theorem comp_str {x : Str} (Pv : Nat → Hp → Prop) (h0 : Pv 0 (upd H1 D (.lst [])))
    (hs : ∀ i c H, x.cps.toList[i]? = some c → Pv i H → g (.str ⟨#[c]⟩) (blockSt n0 cap σ) H fun σ2 H2 => tt σ2 H2 fun b H3 => if b = true then te σ2 H3 fun y H4 => ∃ xs, H4 D = some (.lst xs) ∧ xs.length < sizeLine ∧ Pv (i + 1) (upd H4 D (.lst (xs ++ [y]))) else Pv (i + 1) H3)
    (hd : ∀ H, Pv x.cps.toList.length H → Q (.ref D) H) :
    compRun (Its x) D n0 cap σ g tt te Q H1 := by
  have es : x.cps.toList.length = x.cps.size := Array.length_toList
  refine ⟨fun i m H => m = x.cps.size - i ∧ i ≤ x.cps.size ∧ Pv i H, ⟨x.cps.size, by simp, Nat.zero_le _, h0⟩, ?_⟩
  rintro i m H ⟨rfl, hi, p⟩
  by_cases hlt : i < x.cps.size
  · refine .inr ⟨hlt, Pv (i + 1), fun H' p' => ⟨x.cps.size - (i + 1), by omega, rfl, hlt, p'⟩, fun y H' z => ?_⟩
    obtain ⟨e, c, hc, rfl⟩ := z
    subst e
    exact hs i c _ (by rw [Array.getElem?_toList]; exact hc) p
  · have e : i = x.cps.size := by omega
    subst e
    exact .inl ⟨Nat.le_refl _, hd H (by rw [es]; exact p)⟩
end
end L2
namespace L2
open PySem PySem.Spec PyProof.Rows
section
variable {X : Cx} {pins : List (Addr × Obj)} {σ : St} {H : Hp} {s : Shared}
theorem ev_var {E : Value → Shared → Prop} {i : Nat} {x : Str} {pos : Pos} {v : V} {Q : Value → Shared → Prop} (I : Inv X pins σ H s) (hN : X.N[i]? = some x) (hv : Vis X.env.scope x) (e : σ[i]? = some (some v))
    (h : ∀ u, RelV v u → Q u s) (hd : (x == ("__debug__" : Str)) = false) (hcd : (x == ("__classdict__" : Str)) = false) : wpAny (model X.prog X.w) X.A (eval (.Name x pos) X.env) Q E s := by
  obtain ⟨m, hn, hl⟩ := I.loc
  obtain ⟨u, r, l⟩ := hl i x v hN e hv
  have fin := h u r
  rcases l with ⟨hk, hm⟩ | ⟨hk, c, hc, hcell⟩
  · exact wpAny_Name (wpAny_loadName_local I.ok.kind hk hn hm fin) hd
  · rcases hk with hk | hk
    · exact wpAny_Name (wpAny_loadName_cell I.ok.kind hk hc hcell fin) hd
    · exact wpAny_Name (wpAny_loadName_free I.ok.kind hk hc hcell fin hcd) hd
open PySem.Builtin PySem.Builtin.Str in
theorem gives_rep1 (x y z : Str) (t u v r : Tok) (n0 : (u == 0 || v == 0) = false) (nuv : (u == v) = false) (nyz : (y == z) = false) (nl : tooLong (x.length + (occurrences x y 0 x.length 1).length * z.length) = false) :
    Gives («str.replace» ⟨[.str x t, .str y u, .str z v, .int 1 r], []⟩) (if ((occurrences x y 0 x.length 1).isEmpty || (y.length == 0 && z.length == 0)) = true then .val (.str x t) else .str (glued z (partsBetween x (occurrences x y 0 x.length 1) y.length))) := by
  show Gives (do
    let lim ← countLimit "str.replace" (some (.int 1 r)) (x.length + 1)
    if ((occurrences x y 0 x.length lim).isEmpty || (y.length == 0 && z.length == 0)) = true then (do rule "str.replace.nothing"; ret (.str x t)) else
      (do let one ← isSame (.str y u) (.str z v)
          if one = true then (do rule "str.replace.old-is-new"; ret (.str x t)) else
          if tooLong (x.length + (occurrences x y 0 x.length lim).length * z.length) = true then unsupported "str.replace:memory" else
            retStr (glued z (partsBetween x (occurrences x y 0 x.length lim) y.length)))) _
  rw [countLimit_int _ _ _ _ (by decide)]
  show Gives (if ((occurrences x y 0 x.length 1).isEmpty || (y.length == 0 && z.length == 0)) = true then (do rule "str.replace.nothing"; ret (.str x t)) else
      (do let one ← isSame (.str y u) (.str z v)
          if one = true then (do rule "str.replace.old-is-new"; ret (.str x t)) else
          if tooLong (x.length + (occurrences x y 0 x.length 1).length * z.length) = true then unsupported "str.replace:memory" else
            retStr (glued z (partsBetween x (occurrences x y 0 x.length 1) y.length)))) _
  cases hc : ((occurrences x y 0 x.length 1).isEmpty || (y.length == 0 && z.length == 0))
  · rw [isSame_str_other y z u v n0 nuv nyz, nl]
    exact .of_eq rfl
  · exact .rule (.of_eq rfl)
theorem mem_join {sep : Str} {c : Nat} : ∀ {zs : List Str}, c ∈ (Str.join sep zs).cps.toList → c ∈ sep.cps.toList ∨ ∃ z ∈ zs, c ∈ z.cps.toList
  | [], h => by
    have e : (Str.join sep []).cps.toList = [] := rfl
    rw [e] at h
    exact nomatch h
  | [z], h => .inr ⟨z, .head _, h⟩
  | z :: y :: r, h => by
    have e : (Str.join sep (z :: y :: r)).cps.toList = (z.cps.toList ++ sep.cps.toList) ++ (Str.join sep (y :: r)).cps.toList := by
      show ((z.cps ++ sep.cps) ++ (Str.join sep (y :: r)).cps).toList = _
      rw [Array.toList_append, Array.toList_append]
    rw [e] at h
    rcases List.mem_append.mp h with h | h
    · rcases List.mem_append.mp h with h | h
      · exact .inr ⟨z, .head _, h⟩
      · exact .inl h
    · rcases mem_join h with h | ⟨q, hq, h⟩
      · exact .inl h
      · exact .inr ⟨q, .tail _ hq, h⟩
open PySem.Builtin PySem.Builtin.Str in
theorem ev_rep {E : Value → Shared → Prop} {i : Nat} {x : Str} {p4 apos cpos p5 p6 p7 : Pos} {k2 k3 k4} {a b z : Str} {Q : Value → Shared → Prop} (I : Inv X pins σ H s) (hN : X.N[i]? = some x) (hv : Vis X.env.scope x) (e : σ[i]? = some (some (.str z))) (ht : s.toks ≠ 0)
    (ea : a = ⟨#[32]⟩) (eb : b = ⟨#[32, 32]⟩) (hz : z.length ≤ 100000)
    (h : ∀ (y : Str) (t tk : Nat), y.length ≤ 2 * z.length + 4 → (∀ c ∈ y.cps.toList, c ∈ z.cps.toList ∨ c = 32) → Q (.str y t) { s with toks := tk })
    (hd : (x == ("__debug__" : Str)) = false) (hcd : (x == ("__classdict__" : Str)) = false) (hbase : attributeBase (.Name x p4) "replace" X.env (eval (.Name x p4) X.env) = eval (.Name x p4) X.env)
    (hline : (apos.endLine == cpos.line) = true) :
    wpAny (model X.prog X.w) X.A (eval (.Call (.Attribute (.Name x p4) "replace" apos) [.Constant (.str a) k2 p5, .Constant (.str b) k3 p6, .Constant (.int 1) k4 p7] [] cpos) X.env) Q E s := by
  refine wpAny_Call_method_late hbase rfl hline rfl (ev_var I hN hv e (fun u ru => ?_) hd hcd)
  obtain ⟨t, rfl⟩ := ru
  refine ⟨"str", _, F.plainAttrs_str, F.slot_str_replace, F.type_str_replace, typeIs_str s z t, (fun _ h => nomatch h), ?_⟩
  refine Calls.callWith_builtin rfl (Calls.evalArgs_plain ?_)
  refine Calls.spliced_cons (Calls.Constant_str (k := k2) (pos := p5) (Calls.spliced_cons (Calls.Constant_str (k := k3) (pos := p6) (Calls.spliced_cons (wpAny_Constant_int (k := k4) (pos := p7) (Calls.spliced_nil ?_))))))
  have ol := StrLaws.occ_length_le z a 0 z.length 1
  have bl : b.length = 2 := by rw [eb]; rfl
  have al : a.length = 1 := by rw [ea]; rfl
  refine call_gives F.slot_str_replace (typeIs_str _ z t) F.entry_str_replace (F.args_str_replace_4 _ _ _ _) (gives_rep1 z a b t s.toks (s.toks + 1) (s.toks + 1 + 1) (by simp [ht]) (by simp) (by rw [ea, eb]; decide) ?_) ?_
  · unfold tooLong
    rw [bl, sizeLine_eq, decide_eq_false (by omega)]
  · have pl : (partsBetween z (occurrences z a 0 z.length 1) a.length).length ≤ 2 := by
      rw [length_partsBetween]
      omega
    have pm : ∀ p ∈ partsBetween z (occurrences z a 0 z.length 1) a.length, p.length ≤ z.length ∧ ∀ c ∈ p.cps.toList, c ∈ z.cps.toList := fun p hp => by
      simp only [partsBetween, List.mem_map] at hp
      obtain ⟨⟨i, j⟩, _, rfl⟩ := hp
      refine ⟨strSub_length_le .., fun c hc => ?_⟩
      rw [StrLaws.strSub_toList] at hc
      exact List.mem_of_mem_drop (List.mem_of_mem_take hc)
    have sum : ((partsBetween z (occurrences z a 0 z.length 1) a.length).map (·.length)).sum ≤ 2 * z.length := by
      generalize partsBetween z (occurrences z a 0 z.length 1) a.length = ps at pl pm
      match ps, pl, pm with
      | [], _, _ => exact Nat.zero_le _
      | [p], _, pm =>
        have := (pm p (.head _)).1
        show p.length + 0 ≤ _
        omega
      | [p, q], _, pm =>
        have h1 := (pm p (.head _)).1
        have h2 := (pm q (.tail _ (.head _))).1
        show p.length + (q.length + 0) ≤ _
        omega
    have gl : (glued b (partsBetween z (occurrences z a 0 z.length 1) a.length)).length ≤ 2 * z.length + 4 := by
      rw [StrLaws.glued_eq_join]
      have := StrLaws.join_length_le b (partsBetween z (occurrences z a 0 z.length 1) a.length)
      rw [bl] at this
      omega
    split
    · exact h z t _ (by omega) fun c hc => .inl hc
    · refine ⟨by rw [sizeLine_eq]; omega, h _ _ _ gl fun c hc => ?_⟩
      rw [StrLaws.glued_eq_join] at hc
      rcases mem_join hc with hc | ⟨p, hp, hc⟩
      · right
        rw [eb] at hc
        simpa using hc
      · exact .inl ((pm p hp).2 c hc)
end
section
variable {X : Cx}
theorem len_app (x y : Str) : (x ++ y).length = x.length + y.length := by
  show (x.cps ++ y.cps).size = _
  rw [Array.size_append]
  rfl
noncomputable def tRep (i : Nat) (f : Str → Str) : TA := fun σ H Q => ∃ z : Str, σ[i]? = some (some (.str z)) ∧ z.length ≤ 100000 ∧ ∀ y : Str, y.length ≤ 2 * z.length + 4 → (∀ c ∈ y.cps.toList, c ∈ z.cps.toList ∨ c = 32) → Q [.str (f z), .str y] H
theorem pa_rep {i : Nat} {x : Str} {c a b : Str} {p1 p2 p3 p4 apos cpos p5 p6 p7 : Pos} {k1 k2 k3 k4} (hc : c.length = 1) (ea : a = ⟨#[32]⟩) (eb : b = ⟨#[32, 32]⟩) (hN : X.N[i]? = some x) (hv : Vis X.env.scope x)
    (hd : (x == ("__debug__" : Str)) = false := by decide) (hcd : (x == ("__classdict__" : Str)) = false := by decide) (hbase : attributeBase (.Name x p4) "replace" X.env (eval (.Name x p4) X.env) = eval (.Name x p4) X.env := by rfl)
    (hline : (apos.endLine == cpos.line) = true := by rfl) :
    PA X [.BinOp (.Name x p1) .Add (.Constant (.str c) k1 p2) p3, .Call (.Attribute (.Name x p4) "replace" apos) [.Constant (.str a) k2 p5, .Constant (.str b) k3 p6, .Constant (.int 1) k4 p7] [] cpos] (tRep i fun z => z ++ c) := by
  intro pos pins s σ H Q I h
  obtain ⟨z, e, hz, q⟩ := h
  have two : ∀ (u : Value) (s1 : Shared), Inv X pins σ H s1 → RelV (.str (z ++ c)) u → s1.toks ≠ 0 → wpAny (model X.prog X.w) X.A (spliced (backTo pos [(false, eval (.Call (.Attribute (.Name x p4) "replace" apos) [.Constant (.str a) k2 p5, .Constant (.str b) k3 p6, .Constant (.int 1) k4 p7] [] cpos) X.env)])) (fun vs s2 => AP X pins σ Q (u :: vs) s2) X.xe s1 := fun u s1 I1 r1 t1 => by
    refine Calls.spliced_cons (ev_rep I1 hN hv e t1 ea eb hz (fun y t tk hl hm => Calls.spliced_nil ?_) hd hcd hbase hline)
    exact ⟨[.str (z ++ c), .str y], H, I1.tok _, .cons r1 (.cons ⟨_, rfl⟩ .nil), q y hl hm⟩
  show wpAny _ _ (spliced ((false, eval (.BinOp (.Name x p1) .Add (.Constant (.str c) k1 p2) p3) X.env) :: backTo pos _)) _ _ s
  refine Calls.spliced_cons (wpAny_BinOp (ev_var I hN hv e (fun u ru => Calls.Constant_str ?_) hd hcd))
  obtain ⟨t, rfl⟩ := ru
  refine PySem.P.add_str ?_
  have I1 : Inv X pins σ H { s with toks := s.toks + 1 } := I.tok _
  split
  · rename_i h0
    have z0 : z.cps.toList = [] := List.length_eq_zero_iff.mp (by rw [Array.length_toList]; exact eq_of_beq h0)
    have ez : z ++ c = c := by
      show (⟨z.cps ++ c.cps⟩ : Str) = c
      cases c with
      | mk ca => congr 1; exact Array.toList_inj.mp (by rw [Array.toList_append, z0]; rfl)
    exact two _ _ I1 (by rw [ez]; exact ⟨_, rfl⟩) (Nat.succ_ne_zero _)
  · split
    · rename_i h0
      rw [hc] at h0
      cases h0
    · exact ⟨by rw [sizeLine_eq, len_app]; omega, two _ _ (I1.tok _) ⟨_, rfl⟩ (Nat.succ_ne_zero _)⟩
end
noncomputable def tTryA (sp : Sp) (dvs : List V) (C : Addr) (i j : Nat) (t : TA) (ts : TS) : TS := fun D σ H => t σ H fun vs H1 => sp (vs ++ dvs) H1 (fun v H2 => D.nx (σ.set i (some v)) H2) fun _ ox H2 => ∀ x, ox = some x → H2 x = none → ts (D1 D j) (σ.set j (some (.ref x))) (upd H2 x (excO x C))
section
variable {X : Cx} {C S f : Addr} {k : Nat} {fd : FuncData} {ps : List Str} {sp : Sp} {dvs : List V} {ds : List Value} {nid nid2 : String} {bB bB2 : List Value} {fx sx n y : Str} {p np hpos cpos epos pos pos' : Pos} {b₀ : Stmt} {suite : List Stmt} {i j : Nat} {t : TA} {ts : TS} {e : Expr} {es : List Expr}
theorem ps_tryA (F : FnOk X.prog X.w X.K X.mg X.base (CXC X.prog X.w (.ref C)) k f fd ps sp) (hr : Room k X.A) (hg : Gl X fx) (hm : X.mg fx = some (.ref f)) (hkp : PySem.W.keepIn X.K (.ref f) = true) (hb : Binds X.K fd ps ds) (hd : Vals dvs ds) (ha : PA X.nox (e :: es) t)
    (hcalm : X.calm = true) (hst : X.stack = X.env :: X.outer) (hfm : X.env.frame = some X.env.locals) (hgS : Gl X sx) (hmS : X.mg sx = some (.ref S))
    (cC : PySem.W.excIn X.K C bB nid = true) (cS : PySem.W.excIn X.K S bB2 nid2 = true) (b2 : bB2.contains (.type "BaseException") = true) (hin : (mroOf X.K C).tail.contains (.ref S) = true)
    (hN : X.N.Nodup) (hi : X.N[i]? = some y) (hy : Loc X.env.scope y) (hf : X.fn y = true ∨ X.env.scope.names.lookup y = some .local) (hj : X.N[j]? = some n) (hn : X.env.scope.names.lookup n = some .local) (hs : ∀ x, PSs (X.marked x) (b₀ :: suite) ts) (hdb : (sx == ("__debug__" : Str)) = false := by decide) (hdf : (fx == ("__debug__" : Str)) = false := by decide)
    (he : starEach (e :: es) X.env = (false, eval e X.env) :: starEach es X.env := by rfl) (hpl : (backTo cpos (starEach es X.env)).any (·.1) = false := by rfl) (hsw : swapsWith (.Call (.Name fx p) (e :: es) [] cpos) (some (.Name y pos')) epos.line X.env = pure false := by rfl) :
    PS X (.Try [.Assign [.Name y pos'] (.Call (.Name fx p) (e :: es) [] cpos) epos] [.ExceptHandler (some (.Name sx np)) (some n) (b₀ :: suite) hpos] [] [] pos) (tTryA sp dvs C i j t ts) := by
  intro pins s σ H D I h
  refine wpAny_Try_except (wpAny_execs_cons (wpAny_Assign_Name (wpAny_mono (Q := EP X pins σ fun v H2 => D.nx (σ.set i (some v)) H2) ?_ (fun v s1 ⟨x, H1, I1, r1, q1⟩ => store_ok I1 hN hi hy r1 (fun s2 I2 => wpAny_execs_nil (wpAny_execs_nil ⟨_, H1, I2, q1⟩)) hf) fun _ _ z => z) hsw))
  refine wpAny_Call_Name_kw (ld_glob I hg hm ?_ hdf)
  refine PySem.W.callWith_K (h₀ := X.base) I.ok.mod.kin hkp (wpAny_mono (ha cpos pins s σ H _ (I.wish _) h) (fun us s1 ⟨vs, H1, I1, r, q⟩ => ⟨I1.kIn, ?_⟩) fun _ _ z => z.elim) he hpl
  replace I1 := I1.unwish
  have r2 : Vals (vs ++ dvs) (us ++ ds) := r.append hd
  have hl : (us ++ ds).length = ps.length := by rw [← r2.length]; exact F.len _ _ _ _ q
  refine wpAny_call (codeAny_mono (F.run X.A X.stack s1 H1 ⟨us, []⟩ (us ++ ds) (vs ++ dvs) _ _ hr I1.env0 (hb s1 us I1.kIn hl) r2 q) fun r s2 hq => ?_)
  cases r with
  | error e2 =>
    replace hq : CXC X.prog X.w (.ref C) X.stack H1 s1 (fun _ ox H2 => ∀ x, ox = some x → H2 x = none → ts (D1 D j) (σ.set j (some (.ref x))) (upd H2 x (excO x C))) e2 s2 := hq
    exact caught_as I1 hcalm hst hfm hgS hmS cC cS b2 hin hN hj hn hs hdb hq fun x H2 z y => z x rfl y
  | ok fl =>
    cases fl with
    | ret u => exact I1.after hq
    | next => exact hq.elim
    | brk => exact hq.elim
    | cont => exact hq.elim
end
end L2
namespace L2
open PySem PySem.Spec PyProof.Rows
theorem bpa_rep {X : Cx} {k : Nat} {x : Str} {c a b : Str} {p1 p2 p3 p4 apos cpos p5 p6 p7 : Pos} {k1 k2 k3 k4} (hc : c.length = 1) (ea : a = ⟨#[32]⟩) (eb : b = ⟨#[32, 32]⟩) (hN : X.N[k]? = some x) (hv : Vis X.env.scope x)
    (hd : (x == ("__debug__" : Str)) = false := by decide) (hcd : (x == ("__classdict__" : Str)) = false := by decide) (hbase : attributeBase (.Name x p4) "replace" X.env (eval (.Name x p4) X.env) = eval (.Name x p4) X.env := by rfl)
    (hline : (apos.endLine == cpos.line) = true := by rfl) :
    Bx (PA X [.BinOp (.Name x p1) .Add (.Constant (.str c) k1 p2) p3, .Call (.Attribute (.Name x p4) "replace" apos) [.Constant (.str a) k2 p5, .Constant (.str b) k3 p6, .Constant (.int 1) k4 p7] [] cpos] (tRep k fun z => z ++ c)) := ⟨pa_rep hc ea eb hN hv hd hcd hbase hline⟩
end L2
namespace L2
open PySem PySem.Spec PyProof.Rows
noncomputable def rJoinA : V → List V → Hp → VK → Prop := fun x vs H Q => ∃ (sep : Str) (l : Addr) (zs : List Str), x = .str sep ∧ vs = [.ref l] ∧ H l = some (.lst (zs.map V.str)) ∧ (zs.map (·.length)).sum + zs.length * sep.length ≤ 100000 ∧ Q (.str (Str.join sep zs)) H
theorem mt_joinA {X : Cx} : MtR X "str.join" rJoinA := by
  intro pins s σ H x vs v us Q I rx rv h
  obtain ⟨sep, l, zs, ex, ev, hH, hz, q⟩ := h
  cases zs with
  | cons z zs => exact mt_join pins s σ H x vs v us Q I rx rv ⟨sep, l, z :: zs, ex, ev, hH, by rw [List.length_cons]; omega, hz, q⟩
  | nil =>
    subst ex ev
    obtain ⟨tk, rfl⟩ := rx
    obtain ⟨u, rfl, ru⟩ := rv.one
    cases ru
    obtain ⟨z, its, n, r, hl, e⟩ := I.lstM hH
    obtain ⟨ps, rfl, ez⟩ := vals_strs (zs := []) r
    have ep : ps = [] := List.map_eq_nil_iff.mp ez
    subst ep
    refine call_meets F.slot_str_join (typeIs_str s sep tk) F.entry_str_join (F.args_str_join_2 _ _) (meets_str_join_list sep tk l [] rfl) ⟨⟨_, e, rfl, n, rfl⟩, ?_⟩
    show (Made.str (Builtin.Str.glued sep [])).post _ s
    rw [StrLaws.glued_eq_join]
    exact ⟨(by show 0 ≤ sizeLine; decide), ⟨.str _, H, I.tok _, ⟨_, rfl⟩, q⟩⟩
end L2
set_option exponentiation.threshold 3000
namespace My
open PySem L2
open PySem.W (Dat kqdP kqdPs kqdOk)
theorem lenV1 {us : List Value} (h : us.length = 1) : ∃ x0, us = [x0] := match us, h with | [x0], _ => ⟨x0, rfl⟩
theorem lenV2 {us : List Value} (h : us.length = 2) : ∃ x0 x1, us = [x0, x1] := match us, h with | [x0, x1], _ => ⟨x0, x1, rfl⟩
noncomputable def top (i : Nat) : Stmt := PySem.Challenge.pw_stuckwires_k63_texts_of_no_fault.main.body.getD i (.Pass ⟨0, 0, 0, 0⟩)
noncomputable abbrev s_read_fault : Stmt := top 10
noncomputable abbrev s_read_row : Stmt := top 11
noncomputable abbrev s_read_number : Stmt := top 12
noncomputable abbrev s_law_stir : Stmt := top 14
noncomputable abbrev s_law_deck : Stmt := top 15
noncomputable abbrev s_law_take : Stmt := top 16
noncomputable abbrev s_law_text : Stmt := top 17
noncomputable abbrev s_law_read : Stmt := top 18
noncomputable abbrev s_law_told : Stmt := top 19
noncomputable abbrev s_law_spoilt : Stmt := top 20
noncomputable abbrev s_law : Stmt := top 21
set_option genInjectivity false
structure Def (K : PySem.W.Frag) (mg : Str → Option Value) (x : Str) (st : Stmt) (ps : List Str) (f : Addr) (fd : FuncData) : Prop where
  F : Fun K x x st f fd
  b : Binds K fd ps []
  m : mg x = some (.ref f)
structure Adr where
  f_read_fault : Addr
  fd_read_fault : FuncData
  f_read_row : Addr
  fd_read_row : FuncData
  f_read_number : Addr
  fd_read_number : FuncData
  f_law_stir : Addr
  fd_law_stir : FuncData
  f_law_deck : Addr
  fd_law_deck : FuncData
  f_law_take : Addr
  fd_law_take : FuncData
  f_law_text : Addr
  fd_law_text : FuncData
  f_law_read : Addr
  fd_law_read : FuncData
  f_law_told : Addr
  fd_law_told : FuncData
  f_law_spoilt : Addr
  fd_law_spoilt : FuncData
  f_law : Addr
  fd_law : FuncData
  k_FIGURES : Tok
  x_StuckError : Addr
  x_NoWorks : Addr
  x_NoRow : Addr
  x_NoFault : Addr
  x_NoText : Addr
  x_NoOrder : Addr
  x_TooMany : Addr
structure Txt (K : PySem.W.Frag) (mg : Str → Option Value) (t : Adr) : Prop where
  d_read_fault : Def K mg "read_fault" s_read_fault ["text"] t.f_read_fault t.fd_read_fault
  d_read_row : Def K mg "read_row" s_read_row ["row"] t.f_read_row t.fd_read_row
  d_read_number : Def K mg "read_number" s_read_number ["text"] t.f_read_number t.fd_read_number
  d_law_stir : Def K mg "_law_stir" s_law_stir ["cell", "k"] t.f_law_stir t.fd_law_stir
  d_law_deck : Def K mg "_law_deck" s_law_deck ["cell"] t.f_law_deck t.fd_law_deck
  d_law_take : Def K mg "_law_take" s_law_take ["deck", "many"] t.f_law_take t.fd_law_take
  d_law_text : Def K mg "_law_text" s_law_text ["deck"] t.f_law_text t.fd_law_text
  d_law_read : Def K mg "_law_read" s_law_read ["text"] t.f_law_read t.fd_law_read
  d_law_told : Def K mg "_law_told" s_law_told ["text"] t.f_law_told t.fd_law_told
  d_law_spoilt : Def K mg "_law_spoilt" s_law_spoilt ["deck", "text"] t.f_law_spoilt t.fd_law_spoilt
  d_law : Def K mg "law" s_law ["script"] t.f_law t.fd_law
  z_ValueError : mg "ValueError" = none
  z_int : mg "int" = none
  z_isinstance : mg "isinstance" = none
  z_len : mg "len" = none
  z_range : mg "range" = none
  z_str : mg "str" = none
  z_tuple : mg "tuple" = none
  g_FIGURES : mg "FIGURES" = some (.str "0123456789" t.k_FIGURES)
  g_StuckError : mg "StuckError" = some (.ref t.x_StuckError)
  k_StuckError : XcOk K t.x_StuckError "ValueError" "ValueError.__new__" [.type "ValueError", .type "Exception", .type "BaseException", .type "object"]
  g_NoWorks : mg "NoWorks" = some (.ref t.x_NoWorks)
  k_NoWorks : XcOk K t.x_NoWorks "ValueError" "ValueError.__new__" [.type "ValueError", .type "Exception", .type "BaseException", .type "object"]
  g_NoRow : mg "NoRow" = some (.ref t.x_NoRow)
  k_NoRow : XcOk K t.x_NoRow "ValueError" "ValueError.__new__" [.type "ValueError", .type "Exception", .type "BaseException", .type "object"]
  g_NoFault : mg "NoFault" = some (.ref t.x_NoFault)
  k_NoFault : XcOk K t.x_NoFault "ValueError" "ValueError.__new__" [.type "ValueError", .type "Exception", .type "BaseException", .type "object"]
  g_NoText : mg "NoText" = some (.ref t.x_NoText)
  k_NoText : XcOk K t.x_NoText "ValueError" "ValueError.__new__" [.type "ValueError", .type "Exception", .type "BaseException", .type "object"]
  g_NoOrder : mg "NoOrder" = some (.ref t.x_NoOrder)
  k_NoOrder : XcOk K t.x_NoOrder "ValueError" "ValueError.__new__" [.type "ValueError", .type "Exception", .type "BaseException", .type "object"]
  g_TooMany : mg "TooMany" = some (.ref t.x_TooMany)
  k_TooMany : XcOk K t.x_TooMany "ValueError" "ValueError.__new__" [.type "ValueError", .type "Exception", .type "BaseException", .type "object"]
  i_none : PySem.W.kitAny K (.ref t.x_NoText) [.ref t.x_NoFault, .ref t.x_NoOrder, .ref t.x_NoRow, .ref t.x_NoWorks, .ref t.x_TooMany] = some false
  i_self : PySem.W.kitOne K (.ref t.x_NoText) (.ref t.x_NoText) = some true
  i_value : PySem.W.kitOne K (.ref t.x_NoText) (.type "ValueError") = some true
  i_above : (mroOf K t.x_NoText).tail.contains (.ref t.x_StuckError) = true

noncomputable def sp_stir : Sp := fun vs H Q _ => ∃ (c k : Int), vs = [.int c, .int k] ∧ (k = 1 ∨ k = 2 ∨ k = 3) ∧ ∀ r : Int, 0 ≤ r → r < 10 ^ 62 → Q (.int r) H
noncomputable def sp_deck : Sp := fun vs H Q _ => ∃ c : Int, vs = [.int c] ∧ ∀ (p : Addr) (n : Int), H p = none → Q (.ref p) (upd H p (.lst [.int n]))
noncomputable def sp_take : Sp := fun vs H Q _ => ∃ (p : Addr) (n m : Int), vs = [.ref p, .int m] ∧ H p = some (.lst [.int n]) ∧ 0 < m ∧ m < 100000000000000000000000000000000000000000 ∧ ∀ r n' : Int, 0 ≤ r → r < m → Q (.int r) (upd H p (.lst [.int n']))
noncomputable def sp_law (K : PySem.W.Frag) : Sp := fun vs H Q _ => ∃ (a : Addr) (ns : List Int), vs = [.ref a] ∧ SqL K H a (ns.map V.int) ∧ ns.length ≤ 63 ∧ ∀ H', Q (.bl true) H'

noncomputable def TX (z : Str) : Prop := z.length ≤ 600 ∧ ∀ c ∈ z.cps.toList, c < 128
noncomputable def numL (l : List Nat) : Option Nat := if l = [] ∨ (l.head? = some 48 ∧ l ≠ [48]) ∨ ¬ (∀ c ∈ l, 48 ≤ c ∧ c < 58) then none else some (readN l)
noncomputable def numsL : List (List Nat) → Option (List Int)
  | [] => some []
  | p :: ps => match numL p, numsL ps with
    | some n, some ns => some ((n : Int) :: ns)
    | _, _ => none
theorem numsL_get : ∀ {ps : List (List Nat)} {ns : List Int}, numsL ps = some ns → ∀ (j : Nat) (p : List Nat), ps[j]? = some p → ∃ n : Nat, numL p = some n ∧ ns[j]? = some (n : Int)
  | [], _, _, j, p, h => by cases j <;> cases h
  | q :: ps, ns, e, j, p, h => by
    unfold numsL at e
    split at e
    · rename_i n ms e1 e2
      cases e
      cases j with
      | zero => cases h; exact ⟨n, e1, rfl⟩
      | succ j => exact numsL_get e2 j p h
    · cases e
theorem numsL_len : ∀ {ps : List (List Nat)} {ns : List Int}, numsL ps = some ns → ns.length = ps.length
  | [], _, e => by cases e; rfl
  | q :: ps, ns, e => by
    unfold numsL at e
    split at e
    · rename_i n ms e1 e2
      cases e
      rw [List.length_cons, List.length_cons, numsL_len e2]
    · cases e
theorem numsL_some : ∀ {ps : List (List Nat)}, (∀ p ∈ ps, numL p ≠ none) → ∃ ns, numsL ps = some ns
  | [], _ => ⟨[], rfl⟩
  | q :: ps, h => by
    obtain ⟨ns, e⟩ := numsL_some (ps := ps) fun p hp => h p (.tail _ hp)
    cases e1 : numL q with
    | none => exact absurd e1 (h q (.head _))
    | some n => exact ⟨(n : Int) :: ns, by unfold numsL; rw [e1, e]⟩
theorem numsL_snoc {p : List Nat} {n : Nat} (e : numL p = some n) : ∀ {ps : List (List Nat)} {ms : List Int}, numsL ps = some ms → numsL (ps ++ [p]) = some (ms ++ [(n : Int)])
  | [], ms, h => by
    cases h
    show numsL [p] = _
    unfold numsL
    rw [e]
    rfl
  | q :: ps, ms, h => by
    unfold numsL at h
    split at h
    · rename_i k ns e1 e2
      cases h
      have ih := numsL_snoc e e2
      show numsL (q :: (ps ++ [p])) = _
      unfold numsL
      rw [e1, ih]
      rfl
    · cases h
theorem numsL_bad {p : List Nat} (e : numL p = none) : ∀ {ps : List (List Nat)}, p ∈ ps → numsL ps = none
  | q :: ps, h => by
    unfold numsL
    rcases List.mem_cons.mp h with rfl | h
    · rw [e]
    · rw [numsL_bad e h]
      cases numL q <;> rfl
theorem readN_lt : ∀ (l : List Nat), (∀ c ∈ l, 48 ≤ c ∧ c < 58) → readN l < 10 ^ l.length := by
  intro l
  have key : ∀ (l : List Nat) (a k : Nat), (∀ c ∈ l, 48 ≤ c ∧ c < 58) → a < 10 ^ k → l.foldl (fun a c => a * 10 + (c - 48)) a < 10 ^ (k + l.length) := by
    intro l
    induction l with
    | nil => intro a k _ h; exact h
    | cons c l ih =>
      intro a k hd h
      have hc := hd c (.head _)
      have := ih (a * 10 + (c - 48)) (k + 1) (fun d h => hd d (.tail _ h)) (by rw [Nat.pow_succ]; omega)
      rw [List.length_cons, show k + (l.length + 1) = k + 1 + l.length by omega]
      exact this
  intro hd
  have := key l 0 0 hd (by decide)
  rw [Nat.zero_add] at this
  exact this
theorem strT {z : Str} {l : List Nat} (h : z.cps.toList = l) : z = ⟨l.toArray⟩ := by
  cases z with
  | mk a =>
    congr 1
    exact Array.toList_inj.mp (by simpa using h)
theorem tlA (l : List Nat) : (⟨l.toArray⟩ : Str).cps.toList = l := by simp
theorem blankA : Str.ofString " " = ⟨#[32]⟩ := by decide +kernel
theorem fig_yes : ∀ c, c < 128 → 48 ≤ c → c < 58 → PySem.Builtin.Str.occurrences (Str.ofString "0123456789") ⟨#[c]⟩ 0 (Str.ofString "0123456789").length 1 = [c - 48] := by decide +kernel
theorem fig_no : ∀ c, c < 128 → ¬ (48 ≤ c ∧ c < 58) → PySem.Builtin.Str.occurrences (Str.ofString "0123456789") ⟨#[c]⟩ 0 (Str.ofString "0123456789").length 1 = [] := by decide +kernel
theorem cutA_one (v : V) (xs : List V) : cutV (v :: xs) (some 1) none = xs := by
  have e1 : HT.sIx (v :: xs).length 0 (some 1) = 1 := by
    simp only [HT.sIx]
    rw [if_neg (by decide), List.length_cons]
    exact Nat.min_eq_left (Nat.le_add_left _ _)
  have e2 : HT.sIx (v :: xs).length (v :: xs).length none = (v :: xs).length := rfl
  unfold cutV
  rw [e1, e2, List.drop_one, List.tail_cons]
  exact List.take_of_length_le (by simp)
theorem join_parts (c : Nat) : ∀ (ps : List (List Nat)), (∀ p ∈ ps, p.length ≤ (joinL c ps).length ∧ ∀ d ∈ p, d ∈ joinL c ps) ∧ ps.length ≤ (joinL c ps).length + 1
  | [] => ⟨fun p hp => (nomatch hp), Nat.zero_le _⟩
  | [p] => ⟨fun q hq => by rw [List.mem_singleton.mp hq]; exact ⟨Nat.le_refl _, fun d hd => hd⟩, Nat.le_add_left _ _⟩
  | p :: q :: r => by
    obtain ⟨h1, h2⟩ := join_parts c (q :: r)
    have e : (joinL c (p :: q :: r)) = p ++ c :: joinL c (q :: r) := rfl
    have el : (joinL c (p :: q :: r)).length = p.length + ((joinL c (q :: r)).length + 1) := by rw [e, List.length_append, List.length_cons]
    refine ⟨fun s hs => ?_, by rw [List.length_cons, el]; omega⟩
    rw [el]
    rcases List.mem_cons.mp hs with rfl | hs
    · exact ⟨by omega, fun d hd => by rw [e]; exact List.mem_append_left _ hd⟩
    · have := h1 s hs
      exact ⟨by omega, fun d hd => by rw [e]; exact List.mem_append_right _ (.tail _ (this.2 d hd))⟩
theorem cut_parts (c : Nat) (l : List Nat) : (∀ p ∈ cutL c l, p.length ≤ l.length ∧ ∀ d ∈ p, d ∈ l) ∧ (cutL c l).length ≤ l.length + 1 := by
  have := join_parts c (cutL c l)
  rw [cutL_join] at this
  exact this
theorem TX.part {z : Str} (h : TX z) {c : Nat} {p : List Nat} (hp : p ∈ cutL c z.cps.toList) : TX ⟨p.toArray⟩ := by
  obtain ⟨h1, h2⟩ := (cut_parts c z.cps.toList).1 p hp
  refine ⟨?_, fun d hd => h.2 d (h2 d (by simpa using hd))⟩
  show p.toArray.size ≤ 600
  rw [List.size_toArray]
  have := h.1
  have e : z.cps.toList.length = z.length := Array.length_toList
  omega
theorem joinXA {α : Type} {A : Prop} {C : α → Hp → Prop} {st : α → St} {P : St → Hp → Prop} (h : (∀ v H4, C v H4 → P (st v) H4) → A) (r : ∀ v H4, C v H4 → P (st v) H4) : A := h r
noncomputable def Rz (H : Hp) (E : XK) : Prop := ∀ (H' : Hp) (x : Addr), Same H H' → H' x = none → E (.ref x) (some x) H'
theorem Rz.on {H H' : Hp} {E : XK} (r : Rz H E) (s : Same H H') : Rz H' E := fun H2 x s2 hx => r H2 x (s.trans s2) hx
noncomputable def sp_rdn : Sp := fun vs H Q E => ∃ z : Str, vs = [.str z] ∧ TX z ∧ (∀ n : Nat, numL z.cps.toList = some n → Q (.int n) H) ∧ (numL z.cps.toList = none → Rz H E)
noncomputable def sp_rdr : Sp := fun vs H Q E => ∃ (z : Str) (w : List Nat) (ps : List (List Nat)), vs = [.str z] ∧ TX z ∧ cutL 32 z.cps.toList = w :: ps ∧
  (∀ ns, numsL ps = some ns → ∀ (r q : Addr) (H' : Hp), Same H H' → H r = none → H q = none → H' r = some (.tup [.str ⟨w.toArray⟩, .ref q]) → H' q = some (.tup (ns.map V.int)) → Q (.ref r) H') ∧ (numsL ps = none → Rz H E)
noncomputable def wireW : List Nat := [119, 105, 114, 101]
noncomputable def legW : List Nat := [108, 101, 103]
theorem wire_eq : Str.ofString "wire" = ⟨wireW.toArray⟩ := by decide +kernel
theorem leg_eq : Str.ofString "leg" = ⟨legW.toArray⟩ := by decide +kernel
noncomputable def okF (w : List Nat) (ns : List Int) : Bool := ((w == wireW && ns.length == 2) || (w == legW && ns.length == 3)) && (ns.getLast? == some 0 || ns.getLast? == some 1)
noncomputable def toldD (l : List Nat) : Dat := match cutL 32 l with
  | [] => .none
  | w :: ps => match numsL ps with
    | none => .none
    | some ns => if okF w ns = true then .tuple (.str ⟨w.toArray⟩ :: ns.map .int) else .none
theorem strW {w u : List Nat} : (V.str ⟨w.toArray⟩ = V.str ⟨u.toArray⟩) ↔ w = u := by
  constructor
  · intro h
    have := congrArg (fun x : Str => x.cps.toList) (V.str.inj h)
    simpa using this
  · rintro rfl
    rfl
theorem atLast {ns : List Int} {b : Int} (hb : ns.getLast? = some b) : atI (ns.map V.int) (-1) = some (.int b) := by
  have hne : ns ≠ [] := fun z => by rw [z] at hb; cases hb
  have e1 : ns = ns.dropLast ++ [b] := by
    have := List.dropLast_concat_getLast hne
    rw [List.getLast?_eq_some_getLast hne] at hb
    rw [← Option.some.inj hb]
    exact this.symm
  rw [e1, List.map_append]
  exact at_last _ _
theorem len_no {ns : List Int} {k : Nat} (h : (!decide (V.int ((ns.map V.int).length : Int) = V.int (k : Int))) = true) : (ns.length == k) = false := by
  rw [List.length_map] at h
  refine beq_eq_false_iff_ne.mpr fun e => ?_
  rw [e, decide_eq_true rfl] at h
  cases h
theorem len_yes {ns : List Int} {k : Nat} (h : ¬ (!decide (V.int ((ns.map V.int).length : Int) = V.int (k : Int))) = true) : (ns.length == k) = true := by
  rw [List.length_map] at h
  refine beq_iff_eq.mpr ?_
  cases Decidable.em (V.int (ns.length : Int) = V.int (k : Int)) with
  | inl e => have := V.int.inj e; omega
  | inr e => rw [decide_eq_false e] at h; exact absurd rfl h
theorem okF_no {w : List Nat} {ns : List Int} (h : ((w == wireW && ns.length == 2) || (w == legW && ns.length == 3)) = false) : okF w ns = false := by
  unfold okF
  rw [h]
  rfl
theorem in01 {b : Int} (h : ¬ (b = 0 ∨ b = 1)) : inV (V.int b) [.int 0, .int 1] = false := by
  refine Bool.eq_false_iff.mpr fun y => h ?_
  simp only [inV, List.any_cons, List.any_nil, Bool.or_false, Bool.or_eq_true] at y
  rcases y with z | z
  · exact .inl (by simp [eqV] at z; omega)
  · exact .inr (by simp [eqV] at z; omega)
noncomputable def sp_rdf : Sp := fun vs H Q E => ∃ (z : Str) (w : List Nat) (ps : List (List Nat)), vs = [.str z] ∧ TX z ∧ cutL 32 z.cps.toList = w :: ps ∧
  (∀ ns, numsL ps = some ns → okF w ns = true → ∀ (r : Addr) (H' : Hp), Same H H' → H' r = some (.tup (.str ⟨w.toArray⟩ :: ns.map V.int)) → Q (.ref r) H') ∧ ((∀ ns, numsL ps = some ns → okF w ns = false) → Rz H E)
noncomputable def TXk (k : Nat) (z : Str) : Prop := z.length ≤ k ∧ ∀ c ∈ z.cps.toList, c < 128
theorem TXk.tx {k : Nat} {z : Str} (h : TXk k z) (hk : k ≤ 600) : TX z := ⟨Nat.le_trans h.1 hk, h.2⟩
theorem TXk.mono {k m : Nat} {z : Str} (h : TXk k z) (hk : k ≤ m) : TXk m z := ⟨Nat.le_trans h.1 hk, h.2⟩
theorem cps_app (x y : Str) : (x ++ y).cps.toList = x.cps.toList ++ y.cps.toList := by
  show (x.cps ++ y.cps).toList = _
  rw [Array.toList_append]
theorem TXk.app {k m : Nat} {x y : Str} (hx : TXk k x) (hy : TXk m y) : TXk (k + m) (x ++ y) := by
  refine ⟨by rw [len_app]; exact Nat.add_le_add hx.1 hy.1, fun c hc => ?_⟩
  rw [cps_app] at hc
  rcases List.mem_append.mp hc with h | h
  · exact hx.2 c h
  · exact hy.2 c h
noncomputable def numS (n : Int) : Str := Str.ofString (toString n)
theorem e41 : (10 : Int) ^ 41 = ((10 ^ 41 : Nat) : Int) := by decide +kernel
theorem numS_tx {n : Int} (h0 : 0 ≤ n) (h1 : n < 10 ^ 41) : TXk 41 (numS n) := by
  have e := str_digs n.toNat
  rw [Int.toNat_of_nonneg h0] at e
  have hl : (digs n.toNat).length ≤ 41 := digs_len _ 41 (by rw [e41] at h1; omega) (by decide)
  have e' : (numS n).cps.toList = digs n.toNat := e
  refine ⟨?_, fun c hc => ?_⟩
  · show (numS n).cps.size ≤ 41
    rw [← Array.length_toList, e']
    exact hl
  · rw [e'] at hc
    have := digs_in _ c hc
    omega
theorem log_ok {n : Int} (h : 0 ≤ n) (h1 : n < 10 ^ 41) : n.natAbs.log2 < 1920 := by
  by_cases z : n.natAbs = 0
  · rw [z]
    decide
  · refine (Nat.log2_lt z).mpr ?_
    have e : (10 : Int) ^ 41 < ((2 ^ 140 : Nat) : Int) := by decide +kernel
    have h2 : n.natAbs < 2 ^ 140 := by omega
    exact Nat.lt_of_lt_of_le h2 (Nat.pow_le_pow_right (by decide) (by decide))
noncomputable def wt (zs : List Str) : Nat := (zs.map (·.length)).sum + zs.length
theorem wt_app (a b : List Str) : wt (a ++ b) = wt a + wt b := by
  unfold wt
  rw [List.map_append, List.sum_append, List.length_append]
  omega
theorem wt_cons (a : Str) (b : List Str) : wt (a :: b) = a.length + 1 + wt b := by
  unfold wt
  rw [List.map_cons, List.sum_cons, List.length_cons]
  omega
theorem join_tx {zs : List Str} (hz : ∀ z ∈ zs, ∀ c ∈ z.cps.toList, c < 128) {k : Nat} (hk : wt zs ≤ k) : TXk k (Str.join (Str.ofString " ") zs) := by
  refine ⟨?_, fun c hc => ?_⟩
  · have := StrLaws.join_length_le (Str.ofString " ") zs
    have e1 : (Str.ofString " ").length = 1 := by rw [blankA]; rfl
    rw [e1] at this
    unfold wt at hk
    omega
  · rcases mem_join hc with h | ⟨z, h1, h2⟩
    · rw [blankA] at h
      have : c = 32 := by simpa using h
      omega
    · exact hz z h1 c h2
theorem join_fit {zs : List Str} {k : Nat} (hk : wt zs ≤ k) (h : k ≤ 100000) : (zs.map (·.length)).sum + zs.length * (Str.ofString " ").length ≤ 100000 := by
  have e1 : (Str.ofString " ").length = 1 := by rw [blankA]; rfl
  rw [e1]
  unfold wt at hk
  omega
theorem sameB_put {p D : Addr} {H H1 : Hp} (a : SameB p H H1) (hD : H D = none) (o : HO) : SameB p H (upd H1 D o) := fun b u n h => by
  rw [upd_ne (ne_of_none h hD)]
  exact a b u n h
theorem sameB_fr {p D : Addr} {H H1 : Hp} (a : SameB p H H1) (np : D ≠ p) (h : H1 D = none) : H D = none := by
  cases e : H D with
  | none => rfl
  | some o => rw [a D o np e] at h; cases h
theorem cutA_hd (v : V) (xs : List V) : cutV (v :: xs) none (some 1) = [v] := by
  have e1 : HT.sIx (v :: xs).length (v :: xs).length (some 1) = 1 := by
    simp only [HT.sIx]
    rw [if_neg (by decide), List.length_cons]
    exact Nat.min_eq_left (Nat.le_add_left _ _)
  have e2 : HT.sIx (v :: xs).length 0 none = 0 := rfl
  unfold cutV
  rw [e1, e2]
  rfl
theorem told_none1 {w : List Nat} {ps : List (List Nat)} {z : List Nat} (e : cutL 32 z = w :: ps) (h : ∀ ns, numsL ps = some ns → okF w ns = false) : toldD z = .none := by
  unfold toldD
  rw [e]
  show (match numsL ps with | none => Dat.none | some ns => if okF w ns = true then Dat.tuple (.str ⟨w.toArray⟩ :: ns.map .int) else .none) = _
  cases en : numsL ps with
  | none => rfl
  | some ns =>
    show (if okF w ns = true then _ else _) = _
    rw [h ns en]
    exact if_neg (by decide)
theorem inW (w : List Nat) : inV (V.str ⟨w.toArray⟩) [.str "wire", .str "leg"] = (w == wireW || w == legW) := by
  have key : ∀ u : List Nat, eqV (V.str ⟨u.toArray⟩) (V.str ⟨w.toArray⟩) = (w == u) := fun u => by
    show ((⟨u.toArray⟩ : Str) == ⟨w.toArray⟩) = _
    cases Decidable.em (w = u) with
    | inl h => rw [h]; simp
    | inr h =>
      rw [show (w == u) = false from beq_eq_false_iff_ne.mpr h]
      refine beq_eq_false_iff_ne.mpr fun z => h ?_
      have := congrArg (fun x : Str => x.cps.toList) z.symm
      simpa using this
  rw [wire_eq, leg_eq]
  show (eqV _ _ || (eqV _ _ || false)) = _
  rw [key, key, Bool.or_false]
theorem told_some {w : List Nat} {ps : List (List Nat)} {z : List Nat} {ns : List Int} (e : cutL 32 z = w :: ps) (en : numsL ps = some ns) (h : okF w ns = true) : toldD z = .tuple (.str ⟨w.toArray⟩ :: ns.map .int) := by
  unfold toldD
  rw [e]
  show (match numsL ps with | none => _ | some ns => _) = _
  rw [en]
  exact if_pos h
theorem atI_lt {α : Type} {l : List α} {r : Int} (h0 : 0 ≤ r) (h1 : r < l.length) : ∃ c, atI l r = some c ∧ c ∈ l := by
  have hj : r.toNat < l.length := by omega
  refine ⟨l[r.toNat], ?_, List.getElem_mem hj⟩
  have := atI_nat (xs := l) (j := r.toNat) (List.getElem?_eq_getElem hj)
  rw [Int.toNat_of_nonneg h0] at this
  exact this
theorem ix_in {n : Nat} {i : Int} (h0 : 0 ≤ i) (h1 : i < n) : ixN n i = some i.toNat := by
  unfold ixN
  rw [if_pos h0, if_pos h1]
theorem wt_cut (l : List Nat) : wt ((cutL 32 l).map fun p => (⟨p.toArray⟩ : Str)) = l.length + 1 := by
  have key : ∀ ps : List (List Nat), ps ≠ [] → wt (ps.map fun p => (⟨p.toArray⟩ : Str)) = (joinL 32 ps).length + 1 := by
    intro ps
    induction ps with
    | nil => exact fun h => absurd rfl h
    | cons p ps ih =>
      intro _
      rw [List.map_cons, wt_cons]
      have e1 : (⟨p.toArray⟩ : Str).length = p.length := by show p.toArray.size = _; simp
      rw [e1]
      cases ps with
      | nil => rfl
      | cons q r =>
        rw [ih fun z => nomatch z]
        show _ = (p ++ 32 :: joinL 32 (q :: r)).length + 1
        rw [List.length_append, List.length_cons]
        omega
  have := key (cutL 32 l) (cutL_ne _ _)
  rw [cutL_join] at this
  exact this
theorem wt_ins (zs : List Str) (m : Str) (k : Nat) : wt (zs.take k ++ m :: zs.drop k) = wt zs + m.length + 1 := by
  rw [wt_app, wt_cons]
  have := wt_app (zs.take k) (zs.drop k)
  rw [List.take_append_drop] at this
  omega
theorem wt_drop (zs : List Str) (k : Nat) : wt (zs.drop (k + 1)) ≤ wt (zs.drop k) := by
  rw [← List.drop_drop]
  cases zs.drop k with
  | nil => exact Nat.le_refl _
  | cons a l =>
    rw [wt_cons]
    show wt l ≤ _
    omega
theorem wt_del (zs : List Str) (k : Nat) : wt (zs.eraseIdx k) ≤ wt zs := by
  rw [List.eraseIdx_eq_take_drop_succ, wt_app]
  have := wt_app (zs.take k) (zs.drop k)
  rw [List.take_append_drop] at this
  have := wt_drop zs k
  omega
theorem wt_set (zs : List Str) (m : Str) (k : Nat) : wt (zs.set k m) ≤ wt zs + m.length + 1 := by
  rw [List.set_eq_take_append_cons_drop]
  split
  · rw [wt_app, wt_cons]
    have := wt_app (zs.take k) (zs.drop k)
    rw [List.take_append_drop] at this
    have := wt_drop zs k
    omega
  · omega
theorem told_ok (l : List Nat) (n : Nat) : PySem.W.kqdOk (n + 2) (toldD l) = true := by
  have key : ∀ (w : List Nat) (ns : List Int), okF w ns = true → PySem.W.kqdOk (n + 2) (.tuple (.str ⟨w.toArray⟩ :: ns.map .int)) = true := fun w ns h => by
    have so : PyData.strOk ⟨w.toArray⟩ = true := by
      unfold okF at h
      rcases (Bool.or_eq_true _ _).mp ((Bool.and_eq_true _ _).mp h).1 with z | z
      · rw [beq_iff_eq.mp ((Bool.and_eq_true _ _).mp z).1]; decide +kernel
      · rw [beq_iff_eq.mp ((Bool.and_eq_true _ _).mp z).1]; decide +kernel
    show (Dat.str ⟨w.toArray⟩ :: ns.map Dat.int).all (PySem.W.kqdOk (n + 1)) = true
    refine List.all_eq_true.mpr fun d hd => ?_
    rcases List.mem_cons.mp hd with rfl | hd
    · simp [PySem.W.kqdOk, so]
    · obtain ⟨m, _, rfl⟩ := List.mem_map.mp hd
      simp [PySem.W.kqdOk]
  unfold toldD
  split
  · rfl
  · split
    · rfl
    · split
      · rename_i h
        exact key _ _ h
      · rfl
theorem cutI (ns : List Int) (lo hi : Option Int) : ∃ ms : List Int, cutV (ns.map V.int) lo hi = ms.map V.int ∧ ms.length ≤ ns.length := by
  refine ⟨(ns.drop (HT.sIx (ns.map V.int).length 0 lo)).take (HT.sIx (ns.map V.int).length (ns.map V.int).length hi - HT.sIx (ns.map V.int).length 0 lo), ?_, ?_⟩
  · unfold cutV
    rw [List.map_take, List.map_drop]
  · rw [List.length_take, List.length_drop]
    omega
noncomputable def menuS : List Str := ["", " ", "wire", "leg", "wire 0", "wire 0 2", "wire 0 01", "leg 0 1", "leg 0 0 2", "wire 0 0 0", "well", "leg 0 0 0 0", "wire 0 0\n", "wire 0 " ++ repS "1" (60 : Int).toNat, "leg 0 0"]
noncomputable def noneF (l : List Nat) : Bool := match cutL 32 l with
  | [] => true
  | w :: ps => match numsL ps with
    | none => true
    | some ns => !okF w ns
theorem noneF_told {l : List Nat} (h : noneF l = true) : toldD l = .none := by
  unfold noneF at h
  unfold toldD
  split
  · rfl
  · rename_i w ps e
    rw [e] at h
    split
    · rfl
    · rename_i ns en
      have h2 : (match numsL ps with | none => true | some ns => !okF w ns) = true := h
      rw [en] at h2
      have h3 : (!okF w ns) = true := h2
      rw [if_neg]
      intro z
      rw [z] at h3
      cases h3
theorem menu_none : ∀ z ∈ menuS, noneF z.cps.toList = true := by decide +kernel
theorem menu_tx : ∀ z ∈ menuS, TX z := by unfold TX; decide +kernel
noncomputable def sp_txt : Sp := fun vs H Q _ => ∃ (p : Addr) (n : Int), vs = [.ref p] ∧ H p = some (.lst [.int n]) ∧ ∀ (z : Str) (m : Int) (H' : Hp), TXk 100 z → SameB p H H' → H' p = some (.lst [.int m]) → Q (.str z) H'
noncomputable def sp_lrd (K : PySem.W.Frag) : Sp := fun vs H Q _ => ∃ z : Str, vs = [.str z] ∧ TX z ∧ ∀ (v : V) (H' : Hp), Same H H' → Rep K H' v (toldD z.cps.toList) → Q v H'
noncomputable def sp_spo : Sp := fun vs H Q _ => ∃ (p : Addr) (n : Int) (z : Str), vs = [.ref p, .str z] ∧ H p = some (.lst [.int n]) ∧ TXk 100 z ∧ ∀ (y : Str) (m : Int) (H' : Hp), TX y → SameB p H H' → H' p = some (.lst [.int m]) → Q (.str y) H'
section
variable {P : Program} {w : World} {K : PySem.W.Frag} {mg : Str → Option Value} {base : Heap} {t : Adr}
theorem sc_law_stir : FnScope ["cell", "k", "number"] ["cell", "k"] (defScope s_law_stir) := ⟨rfl, rfl, rfl, by decide +kernel, rfl, by decide +kernel, by decide +kernel⟩
theorem stir_1 (c k : Int) (hk : k = 1 ∨ k = 2 ∨ k = 3) : 0 ≤ c % 10 ^ 40 * 48271 + 3 ^ 60 * (k + 1) * (k + 1) + k ∧ c % 10 ^ 40 * 48271 + 3 ^ 60 * (k + 1) * (k + 1) + k < 10 ^ 46 := by
  rcases hk with rfl | rfl | rfl <;> omega
theorem stir_2 (n : Int) (h0 : 0 ≤ n) (h1 : n < 10 ^ 46) : 0 ≤ n * n + 69621 * n ∧ n * n + 69621 * n < 10 ^ 93 := by
  have a : 0 ≤ n * n := Int.mul_nonneg h0 h0
  have b : n * n ≤ 10 ^ 46 * 10 ^ 46 := Int.mul_le_mul (Int.le_of_lt h1) (Int.le_of_lt h1) h0 (by decide)
  omega
theorem bits46 {n : Int} (h : 0 ≤ n ∧ n < 10 ^ 46) : Builtin.Int.intBits n ≤ 2 ^ 20 := bits_of (k := 160) (by decide) (by omega) (by omega)
theorem bits93 {n : Int} (h : 0 ≤ n ∧ n < 10 ^ 93) : Builtin.Int.intBits n ≤ 2 ^ 20 := bits_of (k := 320) (by decide) (by omega) (by omega)
theorem bits62 {n : Int} (h : 0 ≤ n ∧ n < 10 ^ 62) : Builtin.Int.intBits n ≤ 2 ^ 20 := bits_of (k := 220) (by decide) (by omega) (by omega)
theorem bits130 {n : Int} (h : 0 ≤ n ∧ n < 10 ^ 130) : Builtin.Int.intBits n ≤ 2 ^ 20 := bits_of (k := 450) (by decide) (by omega) (by omega)
theorem eighth (x : Int) : 0 ≤ x % (10 ^ 61 + 7) / 8 ∧ x % (10 ^ 61 + 7) / 8 < 10 ^ 62 := by omega
theorem ok_law_stir (T : Txt K mg t) : FnOk P w K mg base CX0 1 t.f_law_stir t.fd_law_stir ["cell", "k"] sp_stir := by
  refine T.d_law_stir.F.okB sc_law_stir (fun vs H Q E h => ?_) (fun cdv A outer s H vs Q E hr h => ?_)
  · obtain ⟨c, k, rfl, _⟩ := h
    rfl
  obtain ⟨c, k, rfl, hk, q⟩ := h
  refine ⟨_, (bpss_cons (bps_set (k := 2) sc_law_stir.nd rfl (Or.inl rfl) (bpe_op op_add (bpe_op op_add (bpe_op op_mul (bpe_op op_mod (bpv 0) (bpe_op op_pow bpe_int bpe_int)) bpe_int) (bpe_op op_mul (bpe_op op_mul (bpe_op op_pow bpe_int bpe_int) (bpe_op op_add (bpv 1) bpe_int)) (bpe_op op_add (bpv 1) bpe_int))) (bpv 1)))
    (bpss_cons (bps_set (k := 2) sc_law_stir.nd rfl (Or.inl rfl) (bpe_op op_add (bpe_op op_mulB (bpv 2) (bpv 2)) (bpe_op op_mul bpe_int (bpv 2))))
    (bpss_one (bps_ret (bpe_op op_fdiv (bpe_op op_mod (bpe_op op_mulB (bpv 2) (bpv 2)) (bpe_op op_add (bpe_op op_pow bpe_int bpe_int) bpe_int)) bpe_int))))), ?_⟩
  have b1 := stir_1 c k hk
  have b2 := stir_2 _ b1.1 b1.2
  have hk2 : 0 ≤ k ∧ k ≤ 3 := by omega
  have pw : ∀ i j : Int, i.natAbs < 2 ^ 64 → 0 ≤ j → j ≤ 1000000 → CPow i j := fun i j a b c => ⟨b, c, a⟩
  refine ⟨_, rfl, _, _, rfl, rfl, pw _ _ (by decide) (by decide) (by decide), _, _, rfl, rfl, (by show (0 : Int) < 10 ^ 40; decide), _, _, rfl, rfl, .inr ⟨by decide, by decide⟩,
    _, _, rfl, rfl, pw _ _ (by decide) (by decide) (by decide), _, rfl, _, _, rfl, rfl, _, _, rfl, rfl, .inr ⟨by omega, by omega⟩, _, rfl, _, _, rfl, rfl, _, _, rfl, rfl, .inr ⟨by omega, by omega⟩,
    _, _, rfl, rfl, _, rfl, _, _, rfl, rfl, ?_⟩
  refine ⟨_, rfl, _, rfl, _, _, rfl, rfl, ⟨bits46 b1, bits46 b1⟩, _, rfl, _, _, rfl, rfl, .inl ⟨by decide, by decide⟩, _, _, rfl, rfl, ?_⟩
  refine ⟨_, rfl, _, rfl, _, _, rfl, rfl, ⟨bits93 b2, bits93 b2⟩,
    _, _, rfl, rfl, pw _ _ (by decide) (by decide) (by decide), _, _, rfl, rfl, _, _, rfl, rfl, (by show (0 : Int) < 10 ^ 61 + 7; decide), _, _, rfl, rfl, ⟨by decide, by decide⟩, ?_⟩
  exact q _ (eighth _).1 (eighth _).2
theorem sc_law_deck : FnScope ["cell"] ["cell"] (defScope s_law_deck) := ⟨rfl, rfl, rfl, by decide +kernel, rfl, by decide +kernel, by decide +kernel⟩
theorem ok_law_deck (T : Txt K mg t) : FnOk P w K mg base CX0 2 t.f_law_deck t.fd_law_deck ["cell"] sp_deck := by
  refine T.d_law_deck.F.okB sc_law_deck (fun vs H Q E h => ?_) (fun cdv A outer s H vs Q E hr h => ?_)
  · obtain ⟨c, rfl, _⟩ := h
    rfl
  obtain ⟨c, rfl, q⟩ := h
  refine ⟨_, (bpss_cons (bps_if (bpt_cmpR op_ge (bpv 0) (bpe_op op_pow bpe_int bpe_int) (nomark _)) (bpss_one (bps_ret (bpe_lst (bpa_cons (bpe_op op_sub (bpv 0) (bpe_op op_pow bpe_int bpe_int)) (bpa_nil))))) bpss_nil)
    (bpss_one (bps_ret (bpe_lst (bpa_cons (bpe_op op_add (bpe_op op_mulB (bpe_op op_add (bpe_op op_mulB (bpe_call (ok_law_stir T) (hr.mono (by decide)) rfl T.d_law_stir.m T.d_law_stir.F.kp T.d_law_stir.b .nil pass0 (bpa_cons (bpv 0) ( bpa_cons bpe_int (bpa_nil)))) (bpe_op op_pow bpe_int bpe_int)) (bpe_call (ok_law_stir T) (hr.mono (by decide)) rfl T.d_law_stir.m T.d_law_stir.F.kp T.d_law_stir.b .nil pass0 (bpa_cons (bpv 0) ( bpa_cons bpe_int (bpa_nil))))) (bpe_op op_pow bpe_int bpe_int)) (bpe_call (ok_law_stir T) (hr.mono (by decide)) rfl T.d_law_stir.m T.d_law_stir.F.kp T.d_law_stir.b .nil pass0 (bpa_cons (bpv 0) ( bpa_cons bpe_int (bpa_nil))))) (bpa_nil)))))), ?_⟩
  have pw : ∀ i j : Int, i.natAbs < 2 ^ 64 → 0 ≤ j → j ≤ 1000000 → CPow i j := fun i j a b c => ⟨b, c, a⟩
  refine ⟨_, rfl, _, _, rfl, rfl, pw _ _ (by decide) (by decide) (by decide), _, _, rfl, rfl, _, rfl, ite2 (fun _ => ?_) (fun _ => ?_)⟩
  · exact ⟨_, rfl, _, _, rfl, rfl, pw _ _ (by decide) (by decide) (by decide), _, _, rfl, rfl, (by show 1 ≤ sizeLine; decide), fun p hp => q p _ hp⟩
  · have b60 : Builtin.Int.intBits ((10 : Int) ^ (60 : Int).toNat) ≤ 2 ^ 20 := bits62 (n := 10 ^ 60) (by decide)
    refine ⟨_, rfl, c, 1, rfl, .inl rfl, fun r1 a1 b1 => ?_⟩
    refine ⟨_, _, rfl, rfl, pw _ _ (by decide) (by decide) (by decide), _, _, rfl, rfl, ⟨bits62 ⟨a1, b1⟩, b60⟩, _, rfl, c, 2, rfl, .inr (.inl rfl), fun r2 a2 b2 => ?_⟩
    have m1 : 0 ≤ r1 * 10 ^ 60 + r2 ∧ r1 * 10 ^ 60 + r2 < 10 ^ 130 := by omega
    refine ⟨_, _, rfl, rfl, _, _, rfl, rfl, pw _ _ (by decide) (by decide) (by decide), _, _, rfl, rfl, ⟨bits130 m1, b60⟩, _, rfl, c, 3, rfl, .inr (.inr rfl), fun r3 a3 b3 => ?_⟩
    exact ⟨_, _, rfl, rfl, (by show 1 ≤ sizeLine; decide), fun p hp => q p _ hp⟩
theorem sc_law_take : FnScope ["deck", "many", "taken"] ["deck", "many"] (defScope s_law_take) := ⟨rfl, rfl, rfl, by decide +kernel, rfl, by decide +kernel, by decide +kernel⟩
theorem ok_law_take (T : Txt K mg t) : FnOk P w K mg base CX0 1 t.f_law_take t.fd_law_take ["deck", "many"] sp_take := by
  refine T.d_law_take.F.okB sc_law_take (fun vs H Q E h => ?_) (fun cdv A outer s H vs Q E hr h => ?_)
  · obtain ⟨p, n, m, rfl, _⟩ := h
    rfl
  obtain ⟨p, n, m, rfl, hp, m0, m1, q⟩ := h
  refine ⟨_, (bpss_cons (bps_set (k := 2) sc_law_take.nd rfl (Or.inl rfl) (bpe_op op_mod (bpe_ix ix_list (bpv 0) bpe_int (fun _ _ => rfl)) (bpv 1)))
    (bpss_cons (bps_asg (bpe_op op_fdivC (bpe_ix ix_list (bpv 0) bpe_int (fun _ _ => rfl)) (bpv 1)) (bpg_sub (bpv 0) bpe_int set_list))
    (bpss_one (bps_ret (bpv 2))))), ?_⟩
  refine ⟨_, rfl, p, _, _, _, rfl, rfl, .of hp, rfl, _, rfl, _, _, rfl, rfl, m0, ?_⟩
  refine ⟨_, rfl, p, _, _, _, rfl, rfl, .of hp, rfl, _, rfl, _, _, rfl, rfl, ⟨m0, m1⟩, _, rfl, p, _, _, _, rfl, rfl, hp, rfl, ?_⟩
  exact ⟨_, rfl, q _ _ (Int.emod_nonneg _ (Int.ne_of_gt m0)) (Int.emod_lt_of_pos _ m0)⟩
theorem sc_read_number : FnScope ["text", "number", "sign"] ["text"] (defScope s_read_number) := ⟨rfl, rfl, rfl, by decide +kernel, rfl, by decide +kernel, by decide +kernel⟩
theorem okX_read_number (T : Txt K mg t) : FnOk P w K mg base (CXC P w (.ref t.x_NoText)) 1 t.f_read_number t.fd_read_number ["text"] sp_rdn := by
  refine T.d_read_number.F.okC sc_read_number (fun vs H Q E h => ?_) (fun cdv A outer s H vs Q E hr h => ?_)
  · obtain ⟨z, rfl, _⟩ := h
    rfl
  obtain ⟨z, rfl, tx, q, rz⟩ := h
  have hu64 := hr.units
  have sl : sizeLine = 16777216 := by decide
  have ez : z.cps.toList.length = z.length := Array.length_toList
  have lz := tx.1
  refine ⟨_, (bpss_cons (bps_if (bPW_pt (bpw_or (bpt_cmpR op_eq (bpv 0) bpe_str (nomark _)) (bpw_or1 (bPW_pt (bpw_and (bpt_cmpR op_eq (bpe_ix ix_str (bpv 0) bpe_int (fun _ _ => rfl)) bpe_str (nomark _)) (bpw_and1 (bpt_cmpR op_ne (bpv 0) bpe_str (nomark _)))))))) (bpss_one (bps_raise PySem.F.excBase_ValueError T.k_NoText.ex rfl rfl T.g_NoText raiseC (bpa_cons bpe_str bpa_nil))) bpss_nil)
    (bpss_cons (bps_set (k := 1) sc_read_number.nd rfl (Or.inl rfl) bpe_int)
    (bpss_cons (bps_for passesOwnC rfl (bpi_str (bpv 0)) (bpg_name (k := 2) sc_read_number.nd rfl (Or.inl rfl)) (bpss_cons (bps_if (bpt_cmpR op_notin_str (bpv 2) (bpe_glob (v := .str "0123456789") rfl T.g_FIGURES ⟨_, rfl⟩) rfl) (bpss_one (bps_raise PySem.F.excBase_ValueError T.k_NoText.ex rfl rfl T.g_NoText raiseC (bpa_cons bpe_str bpa_nil))) bpss_nil)
    (bpss_one (bps_set (k := 1) sc_read_number.nd rfl (Or.inl rfl) (bpe_op op_add (bpe_op op_mulB (bpv 1) bpe_int) (bpe_bm PySem.F.plainAttrs_str PySem.F.slot_str_index PySem.F.type_str_index mt_index (bpe_glob (v := .str "0123456789") rfl T.g_FIGURES ⟨_, rfl⟩) (bpa_cons (bpv 2) (bpa_nil))))))))
    (bpss_one (bps_ret (bpv 1)))))), ?_⟩
  have bad : numL z.cps.toList = none → 1 ≤ sizeLine ∧ ∀ x, H x = none → E (.ref x) (some x) H := fun e => ⟨(by decide), fun x hx => rz e _ x (Same.refl _) hx⟩
  refine ⟨_, rfl, rfl, _, rfl, ite2 (fun hc => ?_) (fun hc => ?_)⟩
  · refine bad ?_
    have e := V.str.inj (of_decide_eq_true hc)
    have e2 : z.cps.toList = [] := by rw [e]; decide +kernel
    unfold numL
    rw [if_pos (.inl e2)]
  cases e : z.cps.toList with
  | nil =>
    refine absurd (decide_eq_true ?_) hc
    rw [strT e]
    decide +kernel
  | cons c r =>
    have cl : c < 128 := tx.2 c (by rw [e]; exact .head _)
    refine ⟨_, rfl, _, 0, c, rfl, rfl, by omega, (by rw [e]; exact atI_nat (j := 0) rfl), rfl, _, rfl, ?_⟩
    refine' joinXA (α := Unit) (C := fun _ Hx => H = Hx ∧ ¬ ((z.cps.toList.head? = some 48 ∧ z.cps.toList ≠ [48]))) (st := fun _ => [some (.str z), none, none]) (fun rest => _) _
    rotate_left
    · refine ite2 (fun h1 => ?_) (fun h1 => iteF (rest () _ ⟨rfl, fun y => ?_⟩))
      · have c48 : c = 48 := by
          have := congrArg (fun x : Str => x.cps.toList) (V.str.inj (of_decide_eq_true h1))
          rw [show (Str.ofString "0").cps.toList = [48] by decide +kernel] at this
          exact (List.cons.inj this).1
        refine ⟨_, rfl, rfl, _, rfl, ite2 (fun h2 => ?_) (fun h2 => ?_)⟩
        · have nn : z.cps.toList ≠ [48] := fun y => by
            rw [decide_eq_true (show V.str z = V.str (Str.ofString "0") by rw [strT y]; decide +kernel)] at h2
            cases h2
          refine bad ?_
          unfold numL
          rw [if_pos (.inr (.inl ⟨by rw [e, c48]; rfl, nn⟩))]
        · refine rest () _ ⟨rfl, fun y => ?_⟩
          have h3 : V.str z = V.str (Str.ofString "0") := by
            cases Decidable.em (V.str z = V.str (Str.ofString "0")) with
            | inl h => exact h
            | inr h => rw [decide_eq_false h] at h2; exact absurd rfl h2
          exact y.2 (by rw [V.str.inj h3]; decide +kernel)
      · rw [e] at y
        have c48 : c = 48 := by simpa using y.1
        exact h1 (decide_eq_true (by rw [c48]; decide +kernel))
    rintro _ _ ⟨rfl, n48⟩
    have asc : z.cps.all (· < 128) = true := by
      rw [← Array.all_toList, List.all_eq_true]
      intro c hc
      exact decide_eq_true (tx.2 c hc)
    refine ⟨_, rfl, _, rfl, asc, for_str (fun i σ H3 => ∃ o2 : Option V, σ = [some (.str z), some (.int (readN (z.cps.toList.take i) : Nat)), o2] ∧ H3 = H ∧ ∀ c ∈ z.cps.toList.take i, 48 ≤ c ∧ c < 58) ⟨_, rfl, rfl, fun c h => (nomatch h)⟩ ?_ ?_⟩
    · rintro i c σ H3 hi ⟨o2, rfl, rfl, dg⟩
      have cm := List.mem_of_getElem? hi
      have cl := tx.2 c cm
      by_cases hc : 48 ≤ c ∧ c < 58
      · have occ := fig_yes c cl hc.1 hc.2
        have nb := readN_lt _ dg
        have lt : ((readN (z.cps.toList.take i) : Nat) : Int) < 2 ^ 2000 := by
          have h1 : (z.cps.toList.take i).length ≤ 600 := by rw [List.length_take]; omega
          have h2 : (10 : Nat) ^ (z.cps.toList.take i).length ≤ 10 ^ 600 := Nat.pow_le_pow_right (by decide) h1
          have h3 : (10 : Nat) ^ 600 < 2 ^ 2000 := by decide +kernel
          have : readN (z.cps.toList.take i) < 2 ^ 2000 := Nat.lt_of_lt_of_le nb (Nat.le_trans h2 (Nat.le_of_lt h3))
          exact_mod_cast this
        refine ⟨_, rfl, _, _, rfl, rfl, _, rfl, ?_⟩
        rw [occ]
        refine iteF ?_
        refine ⟨_, rfl, _, _, rfl, rfl, ⟨bits_of (k := 2000) (by decide) (by omega) lt, bits_of (k := 5) (by decide) (by decide) (by decide)⟩, ?_⟩
        refine ⟨rfl, _, rfl, _, _, _, _, rfl, rfl, occ, _, _, rfl, rfl, some (.str ⟨#[c]⟩), ?_, rfl, ?_⟩
        · have e3 : readN (z.cps.toList.take (i + 1)) = readN (z.cps.toList.take i) * 10 + (c - 48) := by
            rw [List.take_add_one, hi]
            exact readN_snoc _ _
          rw [e3]
          show [_, some (V.int (((readN (z.cps.toList.take i) : Nat) : Int) * 10 + ((c - 48 : Nat) : Int))), _] = _
          rw [Int.natCast_add, Int.natCast_mul]
          rfl
        · intro d hd
          rw [List.take_add_one, hi] at hd
          rcases List.mem_append.mp hd with hd | hd
          · exact dg d hd
          · rw [List.mem_singleton.mp hd]; exact hc
      · have occ := fig_no c cl hc
        refine ⟨_, rfl, _, _, rfl, rfl, _, rfl, ?_⟩
        rw [occ]
        refine iteT (bad ?_)
        unfold numL
        rw [if_pos (.inr (.inr fun h => hc (h c cm)))]
    · rintro σ H3 ⟨o2, rfl, rfl, dg⟩
      rw [List.take_length] at dg ⊢
      refine ⟨_, rfl, q _ ?_⟩
      unfold numL
      rw [if_neg]
      rintro (h | h | h)
      · rw [e] at h; cases h
      · exact n48 h
      · exact h dg
theorem sc_read_row : FnScope ["row", "parts"] ["row"] (defScope s_read_row) := ⟨rfl, rfl, rfl, by decide +kernel, rfl, by decide +kernel, by decide +kernel⟩
theorem okX_read_row (T : Txt K mg t) : FnOk P w K mg base (CXC P w (.ref t.x_NoText)) 2 t.f_read_row t.fd_read_row ["row"] sp_rdr := by
  refine T.d_read_row.F.okC sc_read_row (fun vs H Q E h => ?_) (fun cdv A outer s H vs Q E hr h => ?_)
  · obtain ⟨z, w, ps, rfl, _⟩ := h
    rfl
  obtain ⟨z, w, ps, rfl, tx, ec, q, rz⟩ := h
  have hu64 := hr.units
  have sl : sizeLine = 16777216 := by decide
  have lz := tx.1
  have ez : z.cps.toList.length = z.length := Array.length_toList
  have lp : ps.length ≤ 601 := by
    have := (cut_parts 32 z.cps.toList).2
    rw [ec, List.length_cons] at this
    omega
  refine ⟨_, (bpss_cons (bps_set (k := 1) sc_read_row.nd rfl (Or.inl rfl) (bpe_bm PySem.F.plainAttrs_str PySem.F.slot_str_split PySem.F.type_str_split mt_splitA (bpv 0) (bpa_cons bpe_str (bpa_nil))))
    (bpss_one (bps_ret (bpe_tup (bpa_cons (bpe_ix ix_list (bpv 1) bpe_int (fun _ _ => rfl)) ( bpa_cons (bpe_callTy call_tuple_of rfl T.z_tuple PyProof.Rows.boot_tuple (bpa_cons (bpe_compX rfl (N := ["part"]) (n := 1) (cap := []) (blk_of rfl rfl) (bpi_list (bpe_slice sl_list (bpv 1) (bpo_some bpe_int) bpo_none)) (keep_name (by decide)) (fun _ _ _ _ => (bpg_name (k := 0) (show (["part"] : List Str).Nodup by decide +kernel) rfl (Or.inl rfl))) (fun _ _ _ _ => bpts_nil) (fun _ _ _ _ o => (bpe_call (okX_read_number T) (hr.mono (by decide)) rfl T.d_read_number.m T.d_read_number.F.kp T.d_read_number.b .nil (passCompC o) (bpa_cons (bpv 0) (bpa_nil))))) (bpa_nil))) (bpa_nil))))))), ?_⟩
  refine ⟨_, rfl, rfl, z, 32, Str.ofString " ", rfl, rfl, blankA, (by decide +kernel), by omega, fun D hD => ?_⟩
  rw [ec, List.map_cons]
  have kD := same_upd hD (.lst (.str ⟨w.toArray⟩ :: ps.map fun p => V.str ⟨p.toArray⟩))
  refine ⟨_, rfl, D, _, _, _, rfl, rfl, .of upd_same, atI_nat (j := 0) rfl, _, rfl, _, rfl, D, _, rfl, .of upd_same, fun S hS => ?_⟩
  rw [cutA_one]
  have kS := same_upd hS (.lst (ps.map fun p => V.str ⟨p.toArray⟩))
  generalize eH2 : upd (upd H D (.lst (.str ⟨w.toArray⟩ :: ps.map fun p => V.str ⟨p.toArray⟩))) S (.lst (ps.map fun p => V.str ⟨p.toArray⟩)) = H2 at kS
  have eS : H2 S = some (.lst (ps.map fun p => V.str ⟨p.toArray⟩)) := by rw [← eH2]; exact upd_same
  have kT := kD.trans kS
  refine ⟨S, rfl, ⟨_, .of eS⟩, fun C hC => comp_list (K := K) (a := S) (xs := ps.map fun p => V.str ⟨p.toArray⟩)
    (fun j H4 => Same H2 H4 ∧ ∃ ms : List Int, H4 C = some (.lst (ms.map V.int)) ∧ ms.length = j ∧ numsL (ps.take j) = some ms)
    ⟨same_upd hC _, [], upd_same, rfl, rfl⟩ (fun j H4 _ z => .of (z.1 _ _ eS)) ?_ ?_⟩
  · rintro j y H4 hy ⟨s4, ms, eC, lm, em⟩
    rw [List.getElem?_map] at hy
    cases hz : ps[j]? with
    | none => rw [hz] at hy; cases hy
    | some p =>
      rw [hz] at hy
      cases hy
      have pm := List.mem_of_getElem? hz
      have lj : j < ps.length := (List.getElem?_eq_some_iff.mp hz).1
      refine ⟨_, rfl, ⟨p.toArray⟩, rfl, tx.part (c := 32) (by rw [ec]; exact .tail _ pm), fun n en => ?_, fun en => ?_⟩
      · rw [tlA] at en
        refine ⟨_, eC, big (by rw [List.length_map, lm]; omega), s4.write hC _, ms ++ [(n : Int)], ?_, by rw [List.length_append, lm]; rfl, ?_⟩
        · rw [upd_same, List.map_append]
          rfl
        · rw [List.take_add_one, hz]
          exact numsL_snoc en em
      · rw [tlA] at en
        exact (rz (numsL_bad en pm)).on (kT.trans s4)
  rintro H4 ⟨s4, ms, eC, lm, em⟩
  rw [List.length_map] at lm em
  rw [List.take_length] at em
  refine ⟨C, _, rfl, .inl ⟨.of eC, fun q1 h1 => ⟨(by show 2 ≤ sizeLine; decide), fun r hr' => ?_⟩⟩⟩
  have k1 := same_upd h1 (.tup (ms.map V.int))
  have k2 := same_upd hr' (.tup [.str ⟨w.toArray⟩, .ref q1])
  exact q ms em r q1 _ (((kT.trans s4).trans k1).trans k2) (((kT.trans s4).trans k1).free hr') ((kT.trans s4).free h1) upd_same (k2 _ _ upd_same)
theorem sc_read_fault : FnScope ["text", "fault", "word", "numbers"] ["text"] (defScope s_read_fault) := ⟨rfl, rfl, rfl, by decide +kernel, rfl, by decide +kernel, by decide +kernel⟩
theorem okX_read_fault (T : Txt K mg t) : FnOk P w K mg base (CXC P w (.ref t.x_NoText)) 3 t.f_read_fault t.fd_read_fault ["text"] sp_rdf := by
  refine T.d_read_fault.F.okC sc_read_fault (fun vs H Q E h => ?_) (fun cdv A outer s H vs Q E hr h => ?_)
  · obtain ⟨z, w, ps, rfl, _⟩ := h
    rfl
  obtain ⟨z, w, ps, rfl, tx, ec, q, rz⟩ := h
  have hu64 := hr.units
  have lz := tx.1
  have ez : z.cps.toList.length = z.length := Array.length_toList
  have lp : ps.length ≤ 601 := by
    have := (cut_parts 32 z.cps.toList).2
    rw [ec, List.length_cons] at this
    omega
  refine ⟨_, (bpss_cons (bps_set (k := 1) sc_read_fault.nd rfl (Or.inl rfl) (bpe_call (okX_read_row T) (hr.mono (by decide)) rfl T.d_read_row.m T.d_read_row.F.kp T.d_read_row.b .nil passC (bpa_cons (bpv 0) (bpa_nil))))
    (bpss_cons (bps_set (k := 2) sc_read_fault.nd rfl (Or.inl rfl) (bpe_ix ix_tup (bpv 1) bpe_int (fun _ _ => rfl)))
    (bpss_cons (bps_set (k := 3) sc_read_fault.nd rfl (Or.inl rfl) (bpe_ix ix_tup (bpv 1) bpe_int (fun _ _ => rfl)))
    (bpss_cons (bps_if (bPW_pt (bpw_and (bpt_not (bPW_pt (bpw_and (bpt_cmpR op_eq (bpv 2) bpe_str (nomark _)) (bpw_and1 (bpt_cmpR op_eq (bpe_callB call_len_seq rfl T.z_len PySem.boot_len (bpa_cons (bpv 3) (bpa_nil))) bpe_int (nomark _)))))) (bpw_and1 (bpt_not (bPW_pt (bpw_and (bpt_cmpR op_eq (bpv 2) bpe_str (nomark _)) (bpw_and1 (bpt_cmpR op_eq (bpe_callB call_len_seq rfl T.z_len PySem.boot_len (bpa_cons (bpv 3) (bpa_nil))) bpe_int (nomark _))))))))) (bpss_one (bps_raise PySem.F.excBase_ValueError T.k_NoText.ex rfl rfl T.g_NoText raiseC (bpa_cons bpe_str bpa_nil))) bpss_nil)
    (bpss_cons (bps_if (bpt_cmpR op_notIn_seq (bpe_ix ix_tup (bpv 3) (bpe_un un_neg bpe_int) (fun _ _ => rfl)) (bpe_tup (bpa_cons bpe_int ( bpa_cons bpe_int (bpa_nil)))) rfl) (bpss_one (bps_raise PySem.F.excBase_ValueError T.k_NoText.ex rfl rfl T.g_NoText raiseC (bpa_cons bpe_str bpa_nil))) bpss_nil)
    (bpss_one (bps_ret (bpe_op op_catT (bpe_tup (bpa_cons (bpv 2) (bpa_nil))) (bpv 3))))))))), ?_⟩
  refine ⟨_, rfl, z, w, ps, rfl, tx, ec, fun ns en r q1 H1 s1 _ _ er eq => ?_, fun en => (rz fun ns e => by rw [en] at e; cases e)⟩
  have ln := numsL_len en
  have len : (ns.map V.int).length = ns.length := List.length_map _
  have bad : ∀ {H2 : Hp}, Same H1 H2 → okF w ns = false → 1 ≤ sizeLine ∧ ∀ x, H2 x = none → E (.ref x) (some x) H2 := fun s2 h => ⟨(by decide), fun x hx => rz (fun ns' e => by rw [en] at e; cases e; exact h) _ x (s1.trans s2) hx⟩
  have wl : wireW ≠ legW := by decide
  refine ⟨_, rfl, r, _, _, _, rfl, rfl, .of er, rfl, _, rfl, r, _, _, _, rfl, rfl, .of er, rfl, ?_⟩
  refine' joinXA (α := Unit) (C := fun _ Hx => H1 = Hx ∧ ((w == wireW && ns.length == 2) || (w == legW && ns.length == 3)) = true) (st := fun _ => [some (.str z), some (.ref r), some (.str ⟨w.toArray⟩), some (.ref q1)]) (fun rest => _) _
  rotate_left
  · refine ⟨_, rfl, rfl, _, rfl, ite2 (fun c => ?_) (fun c => ?_)⟩
    · have ew : w = wireW := strW.mp ((V.str.inj (of_decide_eq_true c)) ▸ (by rw [wire_eq]))
      have e2 : (w == legW) = false := beq_eq_false_iff_ne.mpr fun z => wl (ew.symm.trans z)
      refine ⟨_, rfl, q1, _, rfl, .inr (.of eq), rfl, _, rfl, ite2 (fun c2 => ?_) (fun c2 => iteF (rest () _ ⟨rfl, ?_⟩))⟩
      · refine ⟨_, rfl, rfl, _, rfl, ite2 (fun c3 => ?_) (fun c3 => iteT (bad (Same.refl _) (okF_no ?_)))⟩
        · exact absurd (ew.symm.trans (strW.mp ((V.str.inj (of_decide_eq_true c3)) ▸ (by rw [leg_eq])))) wl
        · rw [len_no (k := 2) c2, e2]
          cases (w == wireW) <;> rfl
      · rw [len_yes (k := 2) c2, beq_iff_eq.mpr ew]
        rfl
    · have e1 : (w == wireW) = false := beq_eq_false_iff_ne.mpr fun z => c (decide_eq_true (by rw [z, wire_eq]))
      refine iteT ?_
      refine ⟨_, rfl, rfl, _, rfl, ite2 (fun c3 => ?_) (fun c3 => iteT (bad (Same.refl _) (okF_no ?_)))⟩
      · have ew : w = legW := strW.mp ((V.str.inj (of_decide_eq_true c3)) ▸ (by rw [leg_eq]))
        refine ⟨_, rfl, q1, _, rfl, .inr (.of eq), rfl, _, rfl, ite2 (fun c2 => bad (Same.refl _) (okF_no ?_)) (fun c2 => rest () _ ⟨rfl, ?_⟩)⟩
        · rw [len_no (k := 3) c2, e1]
          cases (w == legW) <;> rfl
        · rw [len_yes (k := 3) c2, beq_iff_eq.mpr ew]
          cases (w == wireW && ns.length == 2) <;> rfl
      · have e2 : (w == legW) = false := beq_eq_false_iff_ne.mpr fun z => c3 (decide_eq_true (by rw [z, leg_eq]))
        rw [e1, e2]
        rfl
  rintro _ _ ⟨rfl, h1⟩
  have l2 : 2 ≤ ns.length := by
    rcases (Bool.or_eq_true _ _).mp h1 with z | z
    · have := beq_iff_eq.mp ((Bool.and_eq_true _ _).mp z).2; omega
    · have := beq_iff_eq.mp ((Bool.and_eq_true _ _).mp z).2; omega
  obtain ⟨b, hb⟩ : ∃ b, ns.getLast? = some b := by
    cases e : ns.getLast? with
    | some b => exact ⟨b, rfl⟩
    | none => rw [List.getLast?_eq_none_iff.mp e] at l2; exact absurd l2 (by decide)
  have at1 := atLast hb
  refine ⟨_, rfl, _, rfl, q1, _, _, _, rfl, rfl, .of eq, at1, (by show 2 ≤ sizeLine; decide), fun T2 h2 => ?_⟩
  have k2 := same_upd h2 (.tup [.int 0, .int 1])
  refine ⟨T2, _, rfl, .inr (.of upd_same), rfl, rfl, _, rfl, ?_⟩
  by_cases b01 : b = 0 ∨ b = 1
  · refine ite2 (fun c => ?_) (fun c => ?_)
    · rcases b01 with rfl | rfl <;> exact absurd c (by decide)
    have okf : okF w ns = true := by
      unfold okF
      rw [h1, hb]
      rcases b01 with rfl | rfl <;> rfl
    refine ⟨_, rfl, (by show 1 ≤ sizeLine; decide), fun T3 h3 => ?_⟩
    have k3 := same_upd h3 (.tup [.str ⟨w.toArray⟩])
    refine ⟨_, rfl, T3, q1, _, _, rfl, rfl, .of upd_same, .of ((k2.trans k3) _ _ eq), (fun z => nomatch z), bigE (by rw [len]; show 1 + _ ≤ _; omega), fun z => ?_, fun _ p hp => ?_⟩
    · rw [z] at len
      rw [← len] at l2
      exact absurd l2 (by decide)
    · exact q ns en okf p _ (((s1.trans k2).trans k3).upd hp _) upd_same
  · have no : okF w ns = false := by
      unfold okF
      rw [hb, show (some b == some (0 : Int)) = false from beq_eq_false_iff_ne.mpr fun z => b01 (.inl (Option.some.inj z)), show (some b == some (1 : Int)) = false from beq_eq_false_iff_ne.mpr fun z => b01 (.inr (Option.some.inj z))]
      cases ((w == wireW && ns.length == 2) || (w == legW && ns.length == 3)) <;> rfl
    rw [in01 b01]
    exact iteT (bad k2 no)
theorem sc_law_text : FnScope ["deck", "far", "words"] ["deck"] (defScope s_law_text) := ⟨rfl, rfl, rfl, by decide +kernel, rfl, by decide +kernel, by decide +kernel⟩
theorem ok_law_text (T : Txt K mg t) : FnOk P w K mg base CX0 2 t.f_law_text t.fd_law_text ["deck"] sp_txt := by
  refine T.d_law_text.F.okB sc_law_text (fun vs H Q E h => ?_) (fun cdv A outer s H vs Q E hr h => ?_)
  · obtain ⟨p, n, rfl, _⟩ := h
    rfl
  obtain ⟨p, n, rfl, hp, q⟩ := h
  have hu64 := hr.units
  have pw : ∀ i j : Int, i.natAbs < 2 ^ 64 → 0 ≤ j → j ≤ 1000000 → CPow i j := fun i j a b c => ⟨b, c, a⟩
  refine ⟨_, (bpss_cons (bps_set (k := 1) sc_law_text.nd rfl (Or.inl rfl) (bpe_ix ix_list (bpe_lst (bpa_cons bpe_int ( bpa_cons (bpe_op op_pow bpe_int bpe_int) (bpa_nil)))) (bpe_call (ok_law_take T) (hr.mono (by decide)) rfl T.d_law_take.m T.d_law_take.F.kp T.d_law_take.b .nil pass0 (bpa_cons (bpv 0) ( bpa_cons bpe_int (bpa_nil)))) (fun _ _ => rfl)))
    (bpss_cons (bps_set (k := 2) sc_law_text.nd rfl (Or.inl rfl) (bpe_ix ix_list (bpe_lst (bpa_cons (bpe_lst (bpa_cons bpe_str (bpa_nil))) ( bpa_cons (bpe_lst (bpa_cons bpe_str ( bpa_cons (bpe_callTy call_str_int rfl T.z_str PyProof.Rows.boot_str (bpa_cons (bpe_call (ok_law_take T) (hr.mono (by decide)) rfl T.d_law_take.m T.d_law_take.F.kp T.d_law_take.b .nil pass0 (bpa_cons (bpv 0) ( bpa_cons (bpv 1) (bpa_nil)))) (bpa_nil))) (bpa_nil)))) (bpa_nil)))) (bpe_call (ok_law_take T) (hr.mono (by decide)) rfl T.d_law_take.m T.d_law_take.F.kp T.d_law_take.b .nil pass0 (bpa_cons (bpv 0) ( bpa_cons bpe_int (bpa_nil)))) (fun _ _ => rfl)))
    (bpss_one (bps_ret (bpe_bm PySem.F.plainAttrs_str PySem.F.slot_str_join PySem.F.type_str_join mt_joinA bpe_str (bpa_cons (bpe_op op_cat (bpv 2) (bpe_lst (bpa_cons (bpe_callTy call_str_int rfl T.z_str PyProof.Rows.boot_str (bpa_cons (bpe_call (ok_law_take T) (hr.mono (by decide)) rfl T.d_law_take.m T.d_law_take.F.kp T.d_law_take.b .nil pass0 (bpa_cons (bpv 0) ( bpa_cons (bpv 1) (bpa_nil)))) (bpa_nil))) ( bpa_cons (bpe_callTy call_str_int rfl T.z_str PyProof.Rows.boot_str (bpa_cons (bpe_call (ok_law_take T) (hr.mono (by decide)) rfl T.d_law_take.m T.d_law_take.F.kp T.d_law_take.b .nil pass0 (bpa_cons (bpv 0) ( bpa_cons bpe_int (bpa_nil)))) (bpa_nil))) (bpa_nil))))) (bpa_nil))))))), ?_⟩
  refine ⟨_, _, rfl, rfl, pw _ _ (by decide) (by decide) (by decide), (by show 2 ≤ sizeLine; decide), fun L hL => ?_⟩
  have Lp : p ≠ L := ne_of_none hp hL
  have hp1 : (upd H L (.lst [.int 26, .int (10 ^ (40 : Int).toNat)])) p = some (.lst [.int n]) := by rw [upd_ne Lp]; exact hp
  refine ⟨_, rfl, p, n, 2, rfl, hp1, by decide, by decide, fun r1 n1 a1 b1 => ?_⟩
  obtain ⟨far, hf, f0, f1⟩ : ∃ far : Int, atI [V.int 26, .int (10 ^ (40 : Int).toNat)] r1 = some (.int far) ∧ 0 < far ∧ far < 10 ^ 41 := by
    have : r1 = 0 ∨ r1 = 1 := by omega
    rcases this with rfl | rfl
    · exact ⟨_, rfl, by decide, by decide⟩
    · exact ⟨_, rfl, by decide, by decide⟩
  refine ⟨L, _, _, _, rfl, rfl, .of (by rw [upd_ne (Ne.symm Lp), upd_same]), hf, ?_⟩
  have e41' : (10 : Int) ^ 41 = 100000000000000000000000000000000000000000 := by decide
  have f2 : far < 100000000000000000000000000000000000000000 := by rw [← e41']; exact f1
  have sb1 : SameB p H (upd (upd H L (.lst [.int 26, .int (10 ^ (40 : Int).toNat)])) p (.lst [.int n1])) := ((same_upd hL _).b p).write _
  have e1 : (upd (upd H L (.lst [.int 26, .int (10 ^ (40 : Int).toNat)])) p (.lst [.int n1])) p = some (.lst [.int n1]) := upd_same
  generalize upd (upd H L (.lst [.int 26, .int (10 ^ (40 : Int).toNat)])) p (.lst [.int n1]) = H1 at sb1 e1
  refine ⟨(by show 1 ≤ sizeLine; decide), fun L1 h1 => ?_⟩
  have p1 : p ≠ L1 := ne_of_none e1 h1
  have sb2 := sb1.new h1 (.lst [.str "wire"])
  have e2 : (upd H1 L1 (.lst [.str "wire"])) p = some (.lst [.int n1]) := by rw [upd_ne p1]; exact e1
  have w1 : (upd H1 L1 (.lst [.str "wire"])) L1 = some (.lst [.str "wire"]) := upd_same
  generalize upd H1 L1 (.lst [.str "wire"]) = H2 at sb2 e2 w1
  refine ⟨_, rfl, _, rfl, p, n1, far, rfl, e2, f0, f2, fun r2 n2 a2 b2 => ⟨r2, rfl, log_ok a2 (by omega), (by show 2 ≤ sizeLine; decide), fun L2 h2 => ?_⟩⟩
  have p2 : p ≠ L2 := fun z => by rw [← z, upd_same] at h2; cases h2
  have d12 : L1 ≠ L2 := fun z => by rw [← z, upd_ne (Ne.symm p1), w1] at h2; cases h2
  have sb3 := (sb2.write (.lst [.int n2])).new h2 (.lst [.str "leg", .str (toString r2)])
  have e3 : (upd (upd H2 p (.lst [.int n2])) L2 (.lst [.str "leg", .str (toString r2)])) p = some (.lst [.int n2]) := by rw [upd_ne p2, upd_same]
  have w2 : (upd (upd H2 p (.lst [.int n2])) L2 (.lst [.str "leg", .str (toString r2)])) L1 = some (.lst [.str "wire"]) := by rw [upd_ne d12, upd_ne (Ne.symm p1)]; exact w1
  have w3 : (upd (upd H2 p (.lst [.int n2])) L2 (.lst [.str "leg", .str (toString r2)])) L2 = some (.lst [.str "leg", .str (toString r2)]) := upd_same
  generalize upd (upd H2 p (.lst [.int n2])) L2 (.lst [.str "leg", .str (toString r2)]) = H3 at sb3 e3 w2 w3
  refine ⟨(by show 2 ≤ sizeLine; decide), fun L3 h3 => ?_⟩
  have k3 := same_upd h3 (.lst [.ref L1, .ref L2])
  have p3 : p ≠ L3 := ne_of_none e3 h3
  refine ⟨_, rfl, p, n2, 2, rfl, k3 _ _ e3, by decide, by decide, fun r3 n3 a3 b3 => ?_⟩
  obtain ⟨Lx, ws, hx, wx, lx, tx⟩ : ∃ (Lx : Addr) (ws : List Str), atI [V.ref L1, V.ref L2] r3 = some (.ref Lx) ∧ H3 Lx = some (.lst (ws.map V.str)) ∧ wt ws ≤ 50 ∧ ∀ z ∈ ws, ∀ c ∈ z.cps.toList, c < 128 := by
    have : r3 = 0 ∨ r3 = 1 := by omega
    rcases this with rfl | rfl
    · exact ⟨L1, [Str.ofString "wire"], rfl, w2, by decide +kernel, by decide +kernel⟩
    · have nt := numS_tx a2 (by omega)
      refine ⟨L2, [Str.ofString "leg", numS r2], rfl, w3, ?_, fun z hz => ?_⟩
      · rw [wt_cons, wt_cons]
        have h1 := nt.1
        have h2 : (Str.ofString "leg").length = 3 := by decide +kernel
        have h3 : wt [] = 0 := rfl
        omega
      · rcases List.mem_cons.mp hz with rfl | hz
        · decide +kernel
        · rw [List.mem_singleton.mp hz]
          exact nt.2
  have px : Lx ≠ p := fun z => by
    rw [z, e3] at wx
    have := HO.lst.inj (Option.some.inj wx)
    cases ws with
    | nil => cases this
    | cons y ys => cases this
  refine ⟨L3, _, _, _, rfl, rfl, .of (by rw [upd_ne (Ne.symm p3), upd_same]), hx, ?_⟩
  have sb4 := (sb3.new h3 (.lst [.ref L1, .ref L2])).write (.lst [.int n3])
  have e4 : (upd (upd H3 L3 (.lst [.ref L1, .ref L2])) p (.lst [.int n3])) p = some (.lst [.int n3]) := upd_same
  have wx4 : (upd (upd H3 L3 (.lst [.ref L1, .ref L2])) p (.lst [.int n3])) Lx = some (.lst (ws.map V.str)) := by rw [upd_ne px]; exact k3 _ _ wx
  generalize upd (upd H3 L3 (.lst [.ref L1, .ref L2])) p (.lst [.int n3]) = H4 at sb4 e4 wx4
  refine ⟨rfl, _, rfl, _, rfl, _, rfl, p, n3, far, rfl, e4, f0, f2, fun r4 n4 a4 b4 => ⟨r4, rfl, log_ok a4 (by omega), _, rfl, p, n4, 2, rfl, upd_same, by decide, by decide, fun r5 n5 a5 b5 => ⟨r5, rfl, log_ok a5 (by omega), (by show 2 ≤ sizeLine; decide), fun L4 h4 => ?_⟩⟩⟩
  rw [upd_upd] at h4 ⊢
  have p4 : p ≠ L4 := fun z => by rw [← z, upd_same] at h4; cases h4
  have sb5 := (sb4.write (.lst [.int n5])).new h4 (.lst [.str (toString r4), .str (toString r5)])
  have e5 : (upd (upd H4 p (.lst [.int n5])) L4 (.lst [.str (toString r4), .str (toString r5)])) p = some (.lst [.int n5]) := by rw [upd_ne p4, upd_same]
  have wx5 : (upd (upd H4 p (.lst [.int n5])) L4 (.lst [.str (toString r4), .str (toString r5)])) Lx = some (.lst (ws.map V.str)) := by
    have : Lx ≠ L4 := fun z => by rw [← z, upd_ne px, wx4] at h4; cases h4
    rw [upd_ne this, upd_ne px]
    exact wx4
  have w5 : (upd (upd H4 p (.lst [.int n5])) L4 (.lst [.str (toString r4), .str (toString r5)])) L4 = some (.lst [.str (toString r4), .str (toString r5)]) := upd_same
  generalize upd (upd H4 p (.lst [.int n5])) L4 (.lst [.str (toString r4), .str (toString r5)]) = H5 at sb5 e5 wx5 w5
  have t4 := numS_tx a4 (by omega)
  have t5 := numS_tx (n := r5) a5 (by omega)
  have l5 : (numS r5).length ≤ 1 := by
    have : r5 = 0 ∨ r5 = 1 := by omega
    rcases this with rfl | rfl <;> decide +kernel
  have wz : wt (ws ++ [numS r4, numS r5]) ≤ 100 := by
    rw [wt_app, wt_cons, wt_cons]
    have h1 := t4.1
    have h3 : wt [] = 0 := rfl
    omega
  have az : ∀ z ∈ ws ++ [numS r4, numS r5], ∀ c ∈ z.cps.toList, c < 128 := fun z hz => by
    rcases List.mem_append.mp hz with hz | hz
    · exact tx z hz
    · rcases List.mem_cons.mp hz with rfl | hz
      · exact t4.2
      · rw [List.mem_singleton.mp hz]; exact t5.2
  have lw : ws.length ≤ 50 := by unfold wt at lx; omega
  refine ⟨Lx, L4, _, _, rfl, rfl, wx5, w5, bigE (by rw [List.length_map]; show _ + 2 ≤ _; omega), fun C hC => ?_⟩
  have pC : p ≠ C := ne_of_none e5 hC
  refine ⟨_, C, ws ++ [numS r4, numS r5], rfl, rfl, by rw [upd_same, List.map_append]; rfl, join_fit wz (by decide), ?_⟩
  exact q _ n5 _ (join_tx az wz) (sb5.new hC _) (by rw [upd_ne pC]; exact e5)
theorem sc_law_read : FnScope ["text", "words", "word", "numbers"] ["text"] (defScope s_law_read) := ⟨rfl, rfl, rfl, by decide +kernel, rfl, by decide +kernel, by decide +kernel⟩
theorem ok_law_read (T : Txt K mg t) : FnOk P w K mg base CX0 1 t.f_law_read t.fd_law_read ["text"] (sp_lrd K) := by
  refine T.d_law_read.F.okB sc_law_read (fun vs H Q E h => ?_) (fun cdv A outer s H vs Q E hr h => ?_)
  · obtain ⟨z, rfl, _⟩ := h
    rfl
  obtain ⟨z, rfl, tx, q⟩ := h
  have hu64 := hr.units
  have sl : sizeLine = 16777216 := by decide
  have lz := tx.1
  have ez : z.cps.toList.length = z.length := Array.length_toList
  obtain ⟨w, ps, ec⟩ : ∃ w ps, cutL 32 z.cps.toList = w :: ps := by
    cases e : cutL 32 z.cps.toList with
    | nil => exact absurd e (cutL_ne _ _)
    | cons w ps => exact ⟨w, ps, rfl⟩
  have lp : ps.length ≤ 601 := by
    have := (cut_parts 32 z.cps.toList).2
    rw [ec, List.length_cons] at this
    omega
  have txp : ∀ p ∈ ps, TX ⟨p.toArray⟩ := fun p hp => tx.part (c := 32) (by rw [ec]; exact .tail _ hp)
  refine ⟨_, (bpss_cons (bps_set (k := 1) sc_law_read.nd rfl (Or.inl rfl) (bpe_bm PySem.F.plainAttrs_str PySem.F.slot_str_split PySem.F.type_str_split mt_splitA (bpv 0) (bpa_cons bpe_str (bpa_nil))))
    (bpss_cons (bps_if (bPW_pt (bpw_or (bpt_cmpR op_notIn_seq (bpe_ix ix_list (bpv 1) bpe_int (fun _ _ => rfl)) (bpe_tup (bpa_cons bpe_str ( bpa_cons bpe_str (bpa_nil)))) rfl) (bpw_or1 (bpt_cmpR op_ne (bpe_callB call_len_seq rfl T.z_len PySem.boot_len (bpa_cons (bpv 1) (bpa_nil))) (bpe_op op_add bpe_int (bpe_callTy call_int1 rfl T.z_int PyProof.Rows.boot_int (bpa_cons (bpe_cmpR op_eq (bpe_ix ix_list (bpv 1) bpe_int (fun _ _ => rfl)) bpe_str (nomark _)) (bpa_nil)))) (nomark _))))) (bpss_one (bps_ret bpe_non)) bpss_nil)
    (bpss_cons (bps_for PassesOwn.never rfl (bpi_list (bpe_slice sl_list (bpv 1) (bpo_some bpe_int) bpo_none)) (bpg_name (k := 2) sc_law_read.nd rfl (Or.inl rfl)) (bpss_one (bps_if (bPW_pt (bpw_or (bpt_cmpR op_eq (bpv 2) bpe_str (nomark _)) (bpw_or (bpt_cmpR (op_ne0 hu64) (bpe_comp rfl (N := ["sign"]) (n := 1) (cap := []) (blk_of rfl rfl) (bpi_str (bpv 2)) (keep_name (by decide)) (fun _ _ _ _ => (bpg_name (k := 0) (show (["sign"] : List Str).Nodup by decide +kernel) rfl (Or.inl rfl))) (fun _ _ _ _ => (bpts_one (bpt_cmpR op_notin_str (bpv 0) bpe_str rfl))) (fun _ _ _ _ => (bpv 0))) (bpe_lst bpa_nil) (nomark _)) (bpw_or1 (bPW_pt (bpw_and (bpt_cmpR op_eq (bpe_ix ix_str (bpv 2) bpe_int (fun _ _ => rfl)) bpe_str (nomark _)) (bpw_and1 (bpt_cmpR op_gt (bpe_callB call_len_str rfl T.z_len PySem.boot_len (bpa_cons (bpv 2) (bpa_nil))) bpe_int (nomark _))))))))) (bpss_one (bps_ret bpe_non)) bpss_nil)))
    (bpss_cons (bps_setC (k := 3) rfl (N := ["word"]) (n := 1) (cap := []) (blk_of rfl rfl) sc_law_read.nd rfl rfl (bpi_list (bpe_slice sl_list (bpv 1) (bpo_some bpe_int) bpo_none)) (keep_name (by decide)) (fun _ _ _ _ => (bpg_name (k := 0) (show (["word"] : List Str).Nodup by decide +kernel) rfl (Or.inl rfl))) (fun _ _ _ _ => bpts_nil) (fun _ _ _ _ => (bpe_callTy call_intT rfl T.z_int PyProof.Rows.boot_int (bpa_cons (bpv 0) (bpa_nil)))) rfl)
    (bpss_cons (bps_if (bpt_cmpR op_gt (bpe_ix ix_list (bpv 3) (bpe_un un_neg bpe_int) (fun _ _ => rfl)) bpe_int (nomark _)) (bpss_one (bps_ret bpe_non)) bpss_nil)
    (bpss_one (bps_ret (bpe_callTy call_tuple_of rfl T.z_tuple PyProof.Rows.boot_tuple (bpa_cons (bpe_op op_cat (bpe_slice sl_list (bpv 1) bpo_none (bpo_some bpe_int)) (bpv 3)) (bpa_nil)))))))))), ?_⟩
  refine ⟨_, rfl, rfl, z, 32, Str.ofString " ", rfl, rfl, blankA, (by decide +kernel), by omega, fun D hD => ?_⟩
  rw [ec, List.map_cons]
  have kD := same_upd hD (.lst (.str ⟨w.toArray⟩ :: ps.map fun p => V.str ⟨p.toArray⟩))
  have eD : (upd H D (.lst (.str ⟨w.toArray⟩ :: ps.map fun p => V.str ⟨p.toArray⟩))) D = some (.lst (.str ⟨w.toArray⟩ :: ps.map fun p => V.str ⟨p.toArray⟩)) := upd_same
  generalize upd H D (.lst (.str ⟨w.toArray⟩ :: ps.map fun p => V.str ⟨p.toArray⟩)) = H1 at kD eD
  refine ⟨_, rfl, D, _, _, _, rfl, rfl, .of eD, atI_nat (j := 0) rfl, (by show 2 ≤ sizeLine; decide), fun T1 h1 => ?_⟩
  have k1 := same_upd h1 (.tup [.str "wire", .str "leg"])
  have eD1 := k1 _ _ eD
  have k01 := kD.trans k1
  refine ⟨T1, _, rfl, .inr (.of upd_same), rfl, rfl, _, rfl, ?_⟩
  rw [inW]
  generalize upd H1 T1 (.tup [.str "wire", .str "leg"]) = H2 at k1 eD1 k01
  have none_ : ∀ {H4 : Hp}, Same H2 H4 → (∀ ns, numsL ps = some ns → okF w ns = false) → Q .non H4 := fun {H4} s4 h => by
    have q4 := q .non H4 (k01.trans s4)
    rw [told_none1 ec h] at q4
    exact q4 .non
  refine' joinXA (α := Unit) (C := fun _ Hx => H2 = Hx ∧ ((w = wireW ∧ ps.length = 2) ∨ (w = legW ∧ ps.length = 3))) (st := fun _ => [some (.str z), some (.ref D), none, none]) (fun rest => _) _
  rotate_left
  · refine ite2 (fun c => none_ (Same.refl _) fun ns en => okF_no ?_) (fun c => ?_)
    · have c' : (!(w == wireW || w == legW)) = true := c
      have c2 : (w == wireW || w == legW) = false := by simpa using c'
      rw [(Bool.or_eq_false_iff.mp c2).1, (Bool.or_eq_false_iff.mp c2).2]
      rfl
    have c2 : (w == wireW || w == legW) = true := by
      cases h : (w == wireW || w == legW) with
      | true => rfl
      | false => rw [h] at c; exact absurd rfl c
    refine ⟨_, rfl, D, _, rfl, .inl (.of eD1), _, rfl, D, _, _, _, rfl, rfl, .of eD1, atI_nat (j := 0) rfl, rfl, .inr ⟨_, rfl, _, _, rfl, rfl, rfl, _, rfl, ?_⟩⟩
    have wl : wireW ≠ legW := by decide
    have ll : (V.str ⟨w.toArray⟩ :: ps.map fun p => V.str ⟨p.toArray⟩).length = ps.length + 1 := by rw [List.length_cons, List.length_map]
    rw [ll]
    rcases (Bool.or_eq_true _ _).mp c2 with ew | ew
    · have ew := beq_iff_eq.mp ew
      have il : decide (V.str ⟨w.toArray⟩ = V.str (Str.ofString "leg")) = false := decide_eq_false fun y => wl (ew.symm.trans (strW.mp (y.trans (by rw [leg_eq]))))
      rw [il]
      refine ite2 (fun c3 => none_ (Same.refl _) fun ns en => okF_no ?_) (fun c3 => rest () _ ⟨rfl, .inl ⟨ew, ?_⟩⟩)
      · have : ps.length ≠ 2 := fun y => by rw [y] at c3; exact absurd c3 (by decide)
        rw [numsL_len en, show (ps.length == 2) = false from beq_eq_false_iff_ne.mpr this, show (w == legW) = false from beq_eq_false_iff_ne.mpr fun y => wl (ew.symm.trans y)]
        cases (w == wireW) <;> rfl
      · refine Decidable.byContradiction fun y => c3 ?_
        rw [decide_eq_false (fun e => y (by have := V.int.inj e; have h3 : (3 + (if false = true then 1 else 0) : Int) = 3 := rfl; rw [h3] at this; omega))]
        rfl
    · have ew := beq_iff_eq.mp ew
      have il : decide (V.str ⟨w.toArray⟩ = V.str (Str.ofString "leg")) = true := decide_eq_true (by rw [leg_eq, ew])
      rw [il]
      refine ite2 (fun c3 => none_ (Same.refl _) fun ns en => okF_no ?_) (fun c3 => rest () _ ⟨rfl, .inr ⟨ew, ?_⟩⟩)
      · have : ps.length ≠ 3 := fun y => by rw [y] at c3; exact absurd c3 (by decide)
        rw [numsL_len en, show (ps.length == 3) = false from beq_eq_false_iff_ne.mpr this, show (w == wireW) = false from beq_eq_false_iff_ne.mpr fun y => wl (y.symm.trans ew)]
        cases (w == legW) <;> rfl
      · refine Decidable.byContradiction fun y => c3 ?_
        rw [decide_eq_false (fun e => y (by have := V.int.inj e; have h3 : (3 + (if true = true then 1 else 0) : Int) = 4 := rfl; rw [h3] at this; omega))]
        rfl
  rintro _ _ ⟨rfl, h1⟩
  have form : ∀ ns, numsL ps = some ns → ((w == wireW && ns.length == 2) || (w == legW && ns.length == 3)) = true := fun ns en => by
    rw [numsL_len en]
    rcases h1 with ⟨e, l⟩ | ⟨e, l⟩ <;> rw [e, l] <;> rfl
  refine ⟨_, rfl, _, rfl, D, _, rfl, .of eD1, fun S hS => ?_⟩
  rw [cutA_one]
  have kS := same_upd hS (.lst (ps.map fun p => V.str ⟨p.toArray⟩))
  have eS : (upd H2 S (.lst (ps.map fun p => V.str ⟨p.toArray⟩))) S = some (.lst (ps.map fun p => V.str ⟨p.toArray⟩)) := upd_same
  generalize upd H2 S (.lst (ps.map fun p => V.str ⟨p.toArray⟩)) = H3 at kS eS
  refine ⟨S, rfl, ⟨_, .of eS⟩, for_list (K := K) (a := S) (xs := ps.map fun p => V.str ⟨p.toArray⟩)
    (fun j σ H4 => ∃ o2 : Option V, σ = [some (.str z), some (.ref D), o2, none] ∧ Same H3 H4 ∧ ∀ p ∈ ps.take j, numL p ≠ none)
    ⟨_, rfl, Same.refl _, fun p hp => (nomatch hp)⟩ (fun j σ H4 _ z => by obtain ⟨_, _, s4, _⟩ := z; exact .of (s4 _ _ eS)) ?_ ?_⟩
  · rintro j y σ H4 hy ⟨o2, rfl, s4, good⟩
    rw [List.getElem?_map] at hy
    cases hz : ps[j]? with
    | none => rw [hz] at hy; cases hy
    | some p =>
      rw [hz] at hy
      cases hy
      have pm := List.mem_of_getElem? hz
      have txq := txp p pm
      have lq : p.length ≤ 600 := by have := txq.1; have e : (⟨p.toArray⟩ : Str).length = p.length := by show p.toArray.size = _; simp
                                     omega
      have bad : ∀ {H5 : Hp}, Same H4 H5 → numL p = none → Q .non H5 := fun {H5} s5 e => none_ ((kS.trans s4).trans s5) fun ns en => by rw [numsL_bad e pm] at en; cases en
      refine ⟨_, rfl, rfl, _, rfl, ite2 (fun c => bad (Same.refl _) ?_) (fun c => ?_)⟩
      · have e : p = [] := strW.mp ((of_decide_eq_true c).trans (by decide +kernel))
        unfold numL
        rw [if_pos (.inl e)]
      have pn : p ≠ [] := fun e => c (decide_eq_true (by rw [e]; decide +kernel))
      have asc : (⟨p.toArray⟩ : Str).cps.all (· < 128) = true := by
        rw [← Array.all_toList, List.all_eq_true]
        intro c hc
        exact decide_eq_true (txq.2 c hc)
      refine ⟨_, rfl, _, rfl, asc, fun C hC => comp_str (fun i H5 => Same H4 H5 ∧ ∃ xs : List V, H5 C = some (.lst xs) ∧ xs.length ≤ i ∧ (xs = [] ↔ ∀ c ∈ p.take i, 48 ≤ c ∧ c < 58))
        ⟨same_upd hC _, [], upd_same, Nat.le_refl _, fun _ c hc => (nomatch hc), fun _ => rfl⟩ ?_ ?_⟩
      · rintro i c H5 hi ⟨s5, xs, eC, lx, ix⟩
        rw [tlA] at hi
        have ci := (List.getElem?_eq_some_iff.mp hi).1
        have cm := List.mem_of_getElem? hi
        have cl := txq.2 c (by rw [tlA]; exact cm)
        by_cases hc : 48 ≤ c ∧ c < 58
        · refine ⟨_, rfl, _, _, rfl, rfl, _, rfl, ?_⟩
          rw [fig_yes c cl hc.1 hc.2]
          refine iteF ⟨s5, xs, eC, by omega, ?_⟩
          rw [List.take_add_one, hi]
          constructor
          · intro e d hd
            rcases List.mem_append.mp hd with hd | hd
            · exact ix.mp e d hd
            · rw [List.mem_singleton.mp hd]; exact hc
          · exact fun h => ix.mpr fun d hd => h d (List.mem_append_left _ hd)
        · refine ⟨_, rfl, _, _, rfl, rfl, _, rfl, ?_⟩
          rw [fig_no c cl hc]
          refine iteT ⟨_, rfl, xs, eC, by omega, s5.write hC _, _, upd_same, by rw [List.length_append]; show _ + 1 ≤ _; omega, ?_⟩
          rw [List.take_add_one, hi]
          constructor
          · intro e
            exact absurd e (by simp)
          · exact fun h => absurd (h c (List.mem_append_right _ (.head _))) hc
      · rintro H5 ⟨s5, xs, eC, lx, ix⟩
        rw [tlA, List.take_length] at ix
        refine ⟨(by show 0 ≤ sizeLine; decide), fun E1 hE => ?_⟩
        have kE := same_upd hE (.lst [])
        have s6 := s5.trans kE
        refine ⟨C, E1, xs, rfl, rfl, .of (kE _ _ eC), .of upd_same, _, rfl, ite2 (fun c2 => bad s6 ?_) (fun c2 => ?_)⟩
        · unfold numL
          rw [if_pos (.inr (.inr fun h => of_decide_eq_true c2 (ix.mpr h)))]
        have dig : ∀ c ∈ p, 48 ≤ c ∧ c < 58 := ix.mp (Decidable.byContradiction fun h => c2 (decide_eq_true h))
        generalize upd H5 E1 (.lst []) = H6 at s6
        have nxt : ¬ (p.head? = some 48 ∧ p ≠ [48]) → ∀ q ∈ ps.take (j + 1), numL q ≠ none := fun h q hq => by
          rw [List.take_add_one, hz] at hq
          rcases List.mem_append.mp hq with hq | hq
          · exact good q hq
          · rw [List.mem_singleton.mp hq]
            unfold numL
            rw [if_neg]
            · exact fun z => nomatch z
            · rintro (y | y | y)
              · exact pn y
              · exact h y
              · exact y dig
        cases ep : p with
        | nil => exact absurd ep pn
        | cons c0 r =>
          rw [← ep]
          have ls : (⟨p.toArray⟩ : Str).length = p.length := by show p.toArray.size = _; simp
          refine ⟨_, rfl, _, 0, c0, rfl, rfl, by omega, (by rw [tlA, ep]; exact atI_nat (j := 0) rfl), rfl, _, rfl, ite2 (fun h1 => ?_) (fun h1 => iteF ⟨_, rfl, s4.trans s6, nxt fun y => ?_⟩)⟩
          · have c48 : c0 = 48 := by
              have := congrArg (fun x : Str => x.cps.toList) (V.str.inj (of_decide_eq_true h1))
              rw [show (Str.ofString "0").cps.toList = [48] by decide +kernel] at this
              exact (List.cons.inj this).1
            refine ⟨_, rfl, _, rfl, by omega, _, _, rfl, rfl, _, rfl, ite2 (fun h2 => bad s6 ?_) (fun h2 => ⟨_, rfl, s4.trans s6, nxt fun y => ?_⟩)⟩
            · have nn : p ≠ [48] := fun y => by
                rw [ls, y] at h2
                exact absurd h2 (by decide)
              unfold numL
              rw [if_pos (.inr (.inl ⟨by rw [ep, c48]; rfl, nn⟩))]
            · have h3 : ¬ (1 < p.length) := fun h => h2 (decide_eq_true (by rw [ls]; omega))
              rw [ep, List.length_cons] at h3
              have r0 : r = [] := List.length_eq_zero_iff.mp (by omega)
              exact y.2 (by rw [ep, r0, c48])
          · rw [ep] at y
            exact h1 (decide_eq_true (by rw [show c0 = 48 by simpa using y.1]; decide +kernel))
  · rintro σ H4 ⟨o2, rfl, s4, good⟩
    rw [List.length_map, List.take_length] at good
    obtain ⟨ns, en⟩ := numsL_some good
    have ln := numsL_len en
    have s24 := kS.trans s4
    have eD4 := s24 _ _ eD1
    refine ⟨_, rfl, _, rfl, D, _, rfl, .of eD4, fun S2 hS2 => ?_⟩
    rw [cutA_one]
    have k5 := same_upd hS2 (.lst (ps.map fun p => V.str ⟨p.toArray⟩))
    have e5 : (upd H4 S2 (.lst (ps.map fun p => V.str ⟨p.toArray⟩))) S2 = some (.lst (ps.map fun p => V.str ⟨p.toArray⟩)) := upd_same
    generalize upd H4 S2 (.lst (ps.map fun p => V.str ⟨p.toArray⟩)) = H5 at k5 e5
    refine ⟨S2, rfl, ⟨_, .of e5⟩, fun C hC => comp_list (K := K) (a := S2) (xs := ps.map fun p => V.str ⟨p.toArray⟩)
      (fun j H6 => Same H5 H6 ∧ H6 C = some (.lst ((ns.take j).map V.int))) ⟨same_upd hC _, upd_same⟩ (fun j H6 _ z => .of (z.1 _ _ e5)) ?_ ?_⟩
    · rintro j y H6 hy ⟨s6, eC⟩
      rw [List.getElem?_map] at hy
      cases hz : ps[j]? with
      | none => rw [hz] at hy; cases hy
      | some p =>
        rw [hz] at hy
        cases hy
        obtain ⟨n, e1, e2⟩ := numsL_get en j p hz
        have txq := txp p (List.mem_of_getElem? hz)
        have n1 : ¬ (p = [] ∨ (p.head? = some 48 ∧ p ≠ [48]) ∨ ¬ (∀ c ∈ p, 48 ≤ c ∧ c < 58)) ∧ n = readN p := by
          unfold numL at e1
          split at e1
          · cases e1
          · rename_i h
            exact ⟨h, (Option.some.inj e1).symm⟩
        have dig : ∀ c ∈ p, 48 ≤ c ∧ c < 58 := Classical.byContradiction fun h => n1.1 (.inr (.inr h))
        have lj : j < ns.length := by rw [ln]; exact (List.getElem?_eq_some_iff.mp hz).1
        refine ⟨_, rfl, _, rfl, fun c hc => ?_, fun h => n1.1 (.inl (by rw [tlA] at h; exact h)), by have := txq.1; omega, ?_⟩
        · rw [tlA] at hc
          have := dig c hc
          omega
        refine ⟨_, eC, big (by rw [List.length_map, List.length_take]; omega), s6.write hC _, ?_⟩
        rw [upd_same, List.take_add_one, e2, List.map_append, tlA, n1.2]
        rfl
    rintro H6 ⟨s6, eC⟩
    rw [List.length_map, ← ln, List.take_length] at eC
    have s46 := (k5.trans s6)
    have eD6 := s46 _ _ eD4
    have l2 : 2 ≤ ns.length := by rcases h1 with ⟨_, l⟩ | ⟨_, l⟩ <;> omega
    obtain ⟨b, hb⟩ : ∃ b, ns.getLast? = some b := by
      cases e : ns.getLast? with
      | some b => exact ⟨b, rfl⟩
      | none => rw [List.getLast?_eq_none_iff.mp e] at l2; exact absurd l2 (by decide)
    have b0 : 0 ≤ b := by
      have hm : b ∈ ns := List.mem_of_getLast? hb
      obtain ⟨j, hj⟩ := List.getElem?_of_mem hm
      have lj : j < ps.length := by rw [← ln]; exact (List.getElem?_eq_some_iff.mp hj).1
      obtain ⟨n, _, e2⟩ := numsL_get en j _ (List.getElem?_eq_getElem lj)
      rw [hj] at e2
      cases e2
      exact Int.natCast_nonneg _
    refine ⟨_, rfl, _, rfl, C, _, _, _, rfl, rfl, .of eC, atLast hb, _, _, rfl, rfl, _, rfl, ite2 (fun c => ?_) (fun c => ?_)⟩
    · refine none_ (s24.trans s46) fun ns' e => ?_
      rw [en] at e
      cases e
      have hb1 : 1 < b := of_decide_eq_true c
      unfold okF
      rw [hb, show (some b == some (0 : Int)) = false from beq_eq_false_iff_ne.mpr fun z => by have := Option.some.inj z; omega, show (some b == some (1 : Int)) = false from beq_eq_false_iff_ne.mpr fun z => by have := Option.some.inj z; omega]
      cases ((w == wireW && ns.length == 2) || (w == legW && ns.length == 3)) <;> rfl
    have b01 : b = 0 ∨ b = 1 := by
      have : ¬ 1 < b := fun h => c (decide_eq_true h)
      omega
    have okf : okF w ns = true := by
      unfold okF
      rw [form ns en, hb]
      rcases b01 with rfl | rfl <;> rfl
    refine ⟨_, rfl, _, rfl, D, _, rfl, .of eD6, fun S3 hS3 => ?_⟩
    rw [cutA_hd]
    have k7 := same_upd hS3 (.lst [.str ⟨w.toArray⟩])
    refine ⟨_, rfl, S3, C, _, _, rfl, rfl, upd_same, k7 _ _ eC, bigE (by rw [List.length_map]; show 1 + _ ≤ _; omega), fun C2 hC2 => ⟨C2, _, rfl, .inl ⟨.of upd_same, fun p hp => ?_⟩⟩⟩
    have k8 := (k7.upd hC2 (.lst ([.str ⟨w.toArray⟩] ++ ns.map V.int))).upd hp (.tup ([.str ⟨w.toArray⟩] ++ ns.map V.int))
    refine q _ _ (((k01.trans s24).trans s46).trans k8) ?_
    rw [told_some ec en okf]
    exact .tup (.of upd_same) (.cons (.str _) (Reps.ints _))
theorem sc_law_told : FnScope ["text", "caught", "found", "e"] ["text"] (defScope s_law_told) := ⟨rfl, rfl, rfl, by decide +kernel, rfl, by decide +kernel, by decide +kernel⟩
theorem boot_VE : bootBuiltins "ValueError" = some (.type "ValueError") := by kernel_rfl
theorem ok_law_told (T : Txt K mg t) : FnOk P w K mg base CX0 4 t.f_law_told t.fd_law_told ["text"] (sp_lrd K) := by
  refine T.d_law_told.F.okB sc_law_told (fun vs H Q E h => ?_) (fun cdv A outer s H vs Q E hr h => ?_)
  · obtain ⟨z, rfl, _⟩ := h
    rfl
  obtain ⟨z, rfl, tx, q⟩ := h
  have hu64 := hr.units
  obtain ⟨w, ps, ec⟩ : ∃ w ps, cutL 32 z.cps.toList = w :: ps := by
    cases e : cutL 32 z.cps.toList with
    | nil => exact absurd e (cutL_ne _ _)
    | cons w ps => exact ⟨w, ps, rfl⟩
  refine ⟨_, (bpss_cons (bps_set (k := 1) sc_law_told.nd rfl (Or.inl rfl) bpe_non)
    (bpss_cons (bps_set (k := 2) sc_law_told.nd rfl (Or.inl rfl) bpe_non)
    (bpss_cons (Bx.mk (ps_tryA (okX_read_fault T) (hr.mono (by decide)) rfl T.d_read_fault.m T.d_read_fault.F.kp T.d_read_fault.b .nil (pa_cons (pv 0) pa_nil) rfl rfl rfl rfl T.g_StuckError T.k_NoText.ex T.k_StuckError.ex (by decide) T.i_above sc_law_told.nd (i := 2) rfl (Or.inl rfl) (Or.inr rfl) (j := 3) rfl rfl (fun x => pss_one (ps_set (i := 1) sc_law_told.nd rfl (Or.inl rfl) (pv 3)))))
    (bpss_cons (bps_if (bpt_cmp (bpc_isN (bpv 1))) (bpss_one (bps_ret (bpv 2))) bpss_nil)
    (bpss_cons (bps_if (bPW_pt (bpw_or (bpt_val (bpe_callB (call_isXs T.k_NoText) rfl T.z_isinstance PyProof.Rows.boot_isinstance (bpa_cons (bpv 1) (bpa_cons (bpe_tup (bpa_cons (bpe_glob (v := .ref t.x_NoFault) rfl T.g_NoFault rfl) (bpa_cons (bpe_glob (v := .ref t.x_NoOrder) rfl T.g_NoOrder rfl) (bpa_cons (bpe_glob (v := .ref t.x_NoRow) rfl T.g_NoRow rfl) (bpa_cons (bpe_glob (v := .ref t.x_NoWorks) rfl T.g_NoWorks rfl) (bpa_cons (bpe_glob (v := .ref t.x_TooMany) rfl T.g_TooMany rfl) bpa_nil)))))) bpa_nil)))) (bpw_or1 (bpt_not (bpt_val (bpe_callB (call_isXT T.k_NoText) rfl T.z_isinstance PyProof.Rows.boot_isinstance (bpa_cons (bpv 1) (bpa_cons (bpe_bltn (v := .ty "ValueError") rfl T.z_ValueError boot_VE rfl) bpa_nil)))))))) (bpss_one (bps_ret bpe_str)) bpss_nil)
    (bpss_one (bps_ret (bpe_ix ix_list (bpe_lst (bpa_cons bpe_non (bpa_cons bpe_str bpa_nil))) (bpe_callTy call_int1 rfl T.z_int PyProof.Rows.boot_int (bpa_cons (bpe_not (bpe_callB (call_isX T.k_NoText) rfl T.z_isinstance PyProof.Rows.boot_isinstance (bpa_cons (bpv 1) (bpa_cons (bpe_glob (v := .ref t.x_NoText) rfl T.g_NoText rfl) bpa_nil)))) bpa_nil)) (fun _ _ => rfl))))))))), ?_⟩
  refine ⟨_, rfl, z, w, ps, rfl, tx, ec, fun ns en okf r H1 s1 er => ?_, fun bad H2 x s2 hx x2 e hx2 => ?_⟩
  · refine ⟨_, rfl, _, rfl, iteT ⟨_, rfl, q _ _ s1 ?_⟩⟩
    rw [told_some ec en okf]
    exact .tup (.of er) (.cons (.str _) (Reps.ints _))
  · cases e
    have k1 := s2.upd hx (excO x t.x_NoText)
    have ex : (upd H2 x (excO x t.x_NoText)) x = some (excO x t.x_NoText) := upd_same
    generalize upd H2 x (excO x t.x_NoText) = H3 at k1 ex
    refine ⟨_, rfl, ?_⟩
    refine ⟨_, rfl, _, rfl, iteF ?_⟩
    refine ⟨_, rfl, (by show 5 ≤ sizeLine; decide), fun tp htp => ⟨x, tp, [t.x_NoFault, t.x_NoOrder, t.x_NoRow, t.x_NoWorks, t.x_TooMany], false, rfl, same_upd htp _ _ _ ex, .of upd_same, T.i_none, _, rfl, iteF ?_⟩⟩
    have k2 := k1.upd htp (.tup [.ref t.x_NoFault, .ref t.x_NoOrder, .ref t.x_NoRow, .ref t.x_NoWorks, .ref t.x_TooMany])
    have ex2 := same_upd htp (.tup [.ref t.x_NoFault, .ref t.x_NoOrder, .ref t.x_NoRow, .ref t.x_NoWorks, .ref t.x_TooMany]) _ _ ex
    generalize upd H3 tp (.tup [.ref t.x_NoFault, .ref t.x_NoOrder, .ref t.x_NoRow, .ref t.x_NoWorks, .ref t.x_TooMany]) = H4 at k2 ex2
    refine ⟨_, rfl, x, "ValueError", true, rfl, ex2, T.i_value, _, rfl, iteF ?_⟩
    refine ⟨(by show 2 ≤ sizeLine; decide), fun L hL => ?_⟩
    have kL := same_upd hL (.lst [.non, .str "other"])
    refine ⟨_, rfl, x, t.x_NoText, true, rfl, kL _ _ ex2, T.i_self, _, rfl, .inr ⟨_, rfl, L, _, _, _, rfl, rfl, .of upd_same, atI_nat (j := 0) rfl, ?_⟩⟩
    have q4 := q .non _ (k2.trans kL)
    rw [told_none1 ec bad] at q4
    exact q4 .non
theorem sc_law_spoilt : FnScope ["deck", "text", "way", "at", "sign", "words", "spot", "menu"] ["deck", "text"] (defScope s_law_spoilt) := ⟨rfl, rfl, rfl, by decide +kernel, rfl, by decide +kernel, by decide +kernel⟩
theorem ok_law_spoilt (T : Txt K mg t) : FnOk P w K mg base CX0 2 t.f_law_spoilt t.fd_law_spoilt ["deck", "text"] sp_spo := by
  refine T.d_law_spoilt.F.okB sc_law_spoilt (fun vs H Q E h => ?_) (fun cdv A outer s H vs Q E hr h => ?_)
  · obtain ⟨p, n, z, rfl, _⟩ := h
    rfl
  obtain ⟨p, n, z, rfl, hp, tz, q⟩ := h
  have hu64 := hr.units
  have sl : sizeLine = 16777216 := by decide
  have lz := tz.1
  have ez : z.cps.toList.length = z.length := Array.length_toList
  refine ⟨_, (bpss_cons (bps_set (k := 2) sc_law_spoilt.nd rfl (Or.inl rfl) (bpe_call (ok_law_take T) (hr.mono (by decide)) rfl T.d_law_take.m T.d_law_take.F.kp T.d_law_take.b .nil pass0 (bpa_cons (bpv 0) ( bpa_cons bpe_int (bpa_nil)))))
    (bpss_cons (bps_set (k := 3) sc_law_spoilt.nd rfl (Or.inl rfl) (bpe_call (ok_law_take T) (hr.mono (by decide)) rfl T.d_law_take.m T.d_law_take.F.kp T.d_law_take.b .nil pass0 (bpa_cons (bpv 0) ( bpa_cons (bpe_op op_add (bpe_callB call_len_str rfl T.z_len PySem.boot_len (bpa_cons (bpv 1) (bpa_nil))) bpe_int) (bpa_nil)))))
    (bpss_cons (bps_set (k := 4) sc_law_spoilt.nd rfl (Or.inl rfl) (bpe_ix ix_str bpe_str (bpe_call (ok_law_take T) (hr.mono (by decide)) rfl T.d_law_take.m T.d_law_take.F.kp T.d_law_take.b .nil pass0 (bpa_cons (bpv 0) ( bpa_cons bpe_int (bpa_nil)))) (fun _ _ => rfl)))
    (bpss_cons (bps_set (k := 5) sc_law_spoilt.nd rfl (Or.inl rfl) (bpe_bm PySem.F.plainAttrs_str PySem.F.slot_str_split PySem.F.type_str_split mt_splitA (bpv 1) (bpa_cons bpe_str (bpa_nil))))
    (bpss_cons (bps_set (k := 6) sc_law_spoilt.nd rfl (Or.inl rfl) (bpe_call (ok_law_take T) (hr.mono (by decide)) rfl T.d_law_take.m T.d_law_take.F.kp T.d_law_take.b .nil pass0 (bpa_cons (bpv 0) ( bpa_cons (bpe_callB call_len_seq rfl T.z_len PySem.boot_len (bpa_cons (bpv 5) (bpa_nil))) (bpa_nil)))))
    (bpss_cons (bps_set (k := 7) sc_law_spoilt.nd rfl (Or.inl rfl) (bpe_lst (bpa_cons bpe_str ( bpa_cons bpe_str ( bpa_cons bpe_str ( bpa_cons bpe_str ( bpa_cons bpe_str ( bpa_cons bpe_str ( bpa_cons bpe_str ( bpa_cons bpe_str ( bpa_cons bpe_str ( bpa_cons (bpe_op op_mul_str bpe_str bpe_int) ( bpa_cons bpe_str ( bpa_cons bpe_str ( bpa_cons bpe_str ( bpa_cons bpe_str ( bpa_cons bpe_str ( bpa_cons bpe_str (bpa_nil)))))))))))))))))))
    (bpss_cons (bps_if (bpt_cmpR op_eq (bpv 2) bpe_int (nomark _)) (bpss_one (bps_ret (bpe_op op_add_str (bpe_op op_add_str (bpe_slice sl_str (bpv 1) bpo_none (bpo_some (bpv 3))) (bpv 4)) (bpe_slice sl_str (bpv 1) (bpo_some (bpv 3)) bpo_none)))) bpss_nil)
    (bpss_cons (bps_if (bpt_cmpR op_eq (bpv 2) bpe_int (nomark _)) (bpss_one (bps_ret (bpe_op op_add_str (bpe_slice sl_str (bpv 1) bpo_none (bpo_some (bpv 3))) (bpe_slice sl_str (bpv 1) (bpo_some (bpe_op op_add (bpv 3) bpe_int)) bpo_none)))) bpss_nil)
    (bpss_cons (bps_if (bpt_cmpR op_eq (bpv 2) bpe_int (nomark _)) (bpss_one (bps_ret (bpe_op op_add_str (bpe_op op_add_str (bpe_slice sl_str (bpv 1) bpo_none (bpo_some (bpv 3))) (bpv 4)) (bpe_slice sl_str (bpv 1) (bpo_some (bpe_op op_add (bpv 3) bpe_int)) bpo_none)))) bpss_nil)
    (bpss_cons (bps_if (bpt_cmpR op_eq (bpv 2) bpe_int (nomark _)) (bpss_one (bps_ret (bpe_ix ix_list (bpe_lst (bpa_cons (bpe_op op_add_str bpe_str (bpv 1)) ( bpa_cons (bpe_op op_add_str (bpv 1) bpe_str) ( (bpa_rep (k := 1) rfl (by decide +kernel) (by decide +kernel) rfl (Or.inl rfl)))))) (bpe_call (ok_law_take T) (hr.mono (by decide)) rfl T.d_law_take.m T.d_law_take.F.kp T.d_law_take.b .nil pass0 (bpa_cons (bpv 0) ( bpa_cons bpe_int (bpa_nil)))) (fun _ _ => rfl)))) bpss_nil)
    (bpss_cons (bps_if (bpt_cmpR op_eq (bpv 2) bpe_int (nomark _)) (bpss_one (bps_expr (bpe_bm PySem.F.plainAttrs_list PySem.F.slot_list_insert PySem.F.type_list_insert mt_insert (bpv 5) (bpa_cons (bpv 6) ( bpa_cons (bpe_ix ix_list (bpv 7) (bpe_call (ok_law_take T) (hr.mono (by decide)) rfl T.d_law_take.m T.d_law_take.F.kp T.d_law_take.b .nil pass0 (bpa_cons (bpv 0) ( bpa_cons bpe_int (bpa_nil)))) (fun _ _ => rfl)) (bpa_nil)))))) (bpss_one (bps_if (bpt_cmpR op_eq (bpv 2) bpe_int (nomark _)) (bpss_one (bps_expr (bpe_bm PySem.F.plainAttrs_list PySem.F.slot_list_pop PySem.F.type_list_pop mt_popAt (bpv 5) (bpa_cons (bpv 6) (bpa_nil))))) (bpss_one (bps_asg (bpe_ix ix_list (bpv 7) (bpe_call (ok_law_take T) (hr.mono (by decide)) rfl T.d_law_take.m T.d_law_take.F.kp T.d_law_take.b .nil pass0 (bpa_cons (bpv 0) ( bpa_cons bpe_int (bpa_nil)))) (fun _ _ => rfl)) (bpg_sub (bpv 5) (bpv 6) set_list))))))
    (bpss_one (bps_ret (bpe_bm PySem.F.plainAttrs_str PySem.F.slot_str_join PySem.F.type_str_join mt_joinA bpe_str (bpa_cons (bpv 5) (bpa_nil)))))))))))))))), ?_⟩
  refine ⟨_, rfl, p, n, 7, rfl, hp, by decide, by decide, fun way n1 wa wb => ?_⟩
  refine ⟨_, rfl, _, rfl, z, rfl, by omega, _, _, rfl, rfl, p, n1, _, rfl, upd_same, by omega, by omega, fun a n2 aa ab => ?_⟩
  rw [upd_upd]
  refine ⟨_, rfl, p, n2, 29, rfl, upd_same, by decide, by decide, fun r3 n3 a3 b3 => ?_⟩
  rw [upd_upd]
  obtain ⟨c, hc, cm⟩ := atI_lt (l := (Str.ofString "0123456789 wirelgWL-+.,;_#~\n ").cps.toList) a3 (by rw [show (Str.ofString "0123456789 wirelgWL-+.,;_#~\n ").cps.toList.length = 29 by decide +kernel]; exact b3)
  have c128 : c < 128 := (show ∀ c ∈ (Str.ofString "0123456789 wirelgWL-+.,;_#~\n ").cps.toList, c < 128 by decide +kernel) c cm
  have tc : TXk 1 ⟨#[c]⟩ := ⟨Nat.le_refl _, fun d hd => by rw [show d = c by simpa using hd]; exact c128⟩
  refine ⟨_, r3, c, rfl, rfl, (by decide +kernel), hc, ?_⟩
  have sb1 : SameB p H (upd H p (.lst [.int n3])) := (SameB.refl p H).write _
  have e1 : (upd H p (.lst [.int n3])) p = some (.lst [.int n3]) := upd_same
  generalize upd H p (.lst [.int n3]) = H1 at sb1 e1
  refine ⟨_, rfl, rfl, z, 32, Str.ofString " ", rfl, rfl, blankA, (by decide +kernel), by omega, fun D hD => ?_⟩
  have pD : p ≠ D := ne_of_none e1 hD
  have hD0 : H D = none := sameB_fr sb1 (Ne.symm pD) hD
  have sb2 := sameB_put sb1 hD0 (.lst ((cutL 32 z.cps.toList).map fun p => V.str ⟨p.toArray⟩))
  have e2 : (upd H1 D (.lst ((cutL 32 z.cps.toList).map fun p => V.str ⟨p.toArray⟩))) p = some (.lst [.int n3]) := by rw [upd_ne pD]; exact e1
  have eD : (upd H1 D (.lst ((cutL 32 z.cps.toList).map fun p => V.str ⟨p.toArray⟩))) D = some (.lst (((cutL 32 z.cps.toList).map fun p => (⟨p.toArray⟩ : Str)).map V.str)) := by rw [upd_same, List.map_map]; rfl
  have wz := wt_cut z.cps.toList
  have az : ∀ y ∈ (cutL 32 z.cps.toList).map fun p => (⟨p.toArray⟩ : Str), ∀ c ∈ y.cps.toList, c < 128 := fun y hy => by
    obtain ⟨p, hp, rfl⟩ := List.mem_map.mp hy
    exact ((tz.tx (by decide)).part hp).2
  have nz : 1 ≤ ((cutL 32 z.cps.toList).map fun p => (⟨p.toArray⟩ : Str)).length := by
    rw [List.length_map]
    cases h : cutL 32 z.cps.toList with
    | nil => exact absurd h (cutL_ne _ _)
    | cons _ _ => rw [List.length_cons]; omega
  have mz : ((cutL 32 z.cps.toList).map fun p => (⟨p.toArray⟩ : Str)).length ≤ 101 := by
    unfold wt at wz
    omega
  generalize (cutL 32 z.cps.toList).map (fun p => (⟨p.toArray⟩ : Str)) = zs at eD wz az nz mz
  generalize upd H1 D (.lst ((cutL 32 z.cps.toList).map fun p => V.str ⟨p.toArray⟩)) = H2 at sb2 e2 eD
  refine ⟨_, rfl, _, rfl, D, _, rfl, .inl (.of eD), p, n3, _, rfl, e2, by rw [List.length_map]; omega, by rw [List.length_map]; omega, fun spot n4 sa sb => ?_⟩
  rw [List.length_map] at sb
  have sb3 := sb2.write (.lst [.int n4])
  have e3 : (upd H2 p (.lst [.int n4])) p = some (.lst [.int n4]) := upd_same
  have eD3 : (upd H2 p (.lst [.int n4])) D = some (.lst (zs.map V.str)) := by rw [upd_ne (Ne.symm pD)]; exact eD
  generalize upd H2 p (.lst [.int n4]) = H3 at sb3 e3 eD3
  refine ⟨_, _, rfl, rfl, by decide, by decide, by decide +kernel, by decide +kernel, (by show 16 ≤ sizeLine; decide), fun M hM => ?_⟩
  obtain ⟨ms, em, lM, tM⟩ : ∃ ms : List Str, ms.map V.str = [V.str "", .str "0", .str "1", .str "2", .str "00", .str "01", .str "-1", .str "+1", .str "1_0", .str (repS "9" (50 : Int).toNat), .str "wire", .str "leg", .str "Wire", .str "legs", .str "x", .str "10"] ∧ ms.length = 16 ∧ ∀ m ∈ ms, TXk 50 m :=
    ⟨["", "0", "1", "2", "00", "01", "-1", "+1", "1_0", repS "9" (50 : Int).toNat, "wire", "leg", "Wire", "legs", "x", "10"], rfl, rfl, by unfold TXk; decide +kernel⟩
  rw [← em]
  have pM : p ≠ M := ne_of_none e3 hM
  have dM : D ≠ M := ne_of_none eD3 hM
  have sb4 := sb3.new hM (.lst (ms.map V.str))
  have e4 : (upd H3 M (.lst (ms.map V.str))) p = some (.lst [.int n4]) := by rw [upd_ne pM]; exact e3
  have eD4 : (upd H3 M (.lst (ms.map V.str))) D = some (.lst (zs.map V.str)) := by rw [upd_ne dM]; exact eD3
  have eM4 : (upd H3 M (.lst (ms.map V.str))) M = some (.lst (ms.map V.str)) := upd_same
  generalize upd H3 M (.lst (ms.map V.str)) = H4 at sb4 e4 eD4 eM4
  have cutx : ∀ y : Str, y.length ≤ z.length → (∀ c ∈ y.cps.toList, c ∈ z.cps.toList) → TXk 100 y := fun y h1 h2 => ⟨by omega, fun c hc => tz.2 c (h2 c hc)⟩
  have fin : ∀ {k : Nat} (y : Str), TXk k y → k ≤ 600 → Q (.str y) H4 := fun y ty hk => q y n4 H4 (ty.tx hk) sb4 e4
  refine ⟨_, rfl, rfl, _, rfl, ite2 (fun _ => ?_) (fun _ => ?_)⟩
  · refine ⟨_, rfl, _, rfl, _, rfl, z, rfl, by omega, fun y1 l1 m1 => ⟨_, rfl, _, _, rfl, rfl, ?_, _, rfl, _, rfl, _, rfl, z, rfl, by omega, fun y2 l2 m2 => ⟨_, _, rfl, rfl, ?_, ?_⟩⟩⟩
    · have : (⟨#[c]⟩ : Str).length = 1 := rfl
      omega
    · rw [len_app]
      have : (⟨#[c]⟩ : Str).length = 1 := rfl
      omega
    · exact fin _ (((cutx y1 l1 m1).app tc).app (cutx y2 l2 m2)) (by decide)
  refine ⟨_, rfl, rfl, _, rfl, ite2 (fun _ => ?_) (fun _ => ?_)⟩
  · refine ⟨_, rfl, _, rfl, _, rfl, z, rfl, by omega, fun y1 l1 m1 => ⟨_, rfl, _, rfl, _, _, rfl, rfl, _, rfl, z, rfl, by omega, fun y2 l2 m2 => ⟨_, _, rfl, rfl, ?_, ?_⟩⟩⟩
    · omega
    · exact fin _ ((cutx y1 l1 m1).app (cutx y2 l2 m2)) (by decide)
  refine ⟨_, rfl, rfl, _, rfl, ite2 (fun _ => ?_) (fun _ => ?_)⟩
  · refine ⟨_, rfl, _, rfl, _, rfl, z, rfl, by omega, fun y1 l1 m1 => ⟨_, rfl, _, _, rfl, rfl, ?_, _, rfl, _, rfl, _, _, rfl, rfl, _, rfl, z, rfl, by omega, fun y2 l2 m2 => ⟨_, _, rfl, rfl, ?_, ?_⟩⟩⟩
    · have : (⟨#[c]⟩ : Str).length = 1 := rfl
      omega
    · rw [len_app]
      have : (⟨#[c]⟩ : Str).length = 1 := rfl
      omega
    · exact fin _ (((cutx y1 l1 m1).app tc).app (cutx y2 l2 m2)) (by decide)
  refine ⟨_, rfl, rfl, _, rfl, ite2 (fun _ => ?_) (fun _ => ?_)⟩
  · have t1 : TXk 1 (Str.ofString " ") := by unfold TXk; decide +kernel
    have t2 : TXk 1 (Str.ofString "\n") := by unfold TXk; decide +kernel
    have g1 := t1.1
    refine ⟨_, rfl, _, _, rfl, rfl, by omega, _, rfl, _, _, rfl, rfl, by omega, z, rfl, by omega, fun y ly my => ⟨(by show 4 ≤ sizeLine; decide), fun L hL => ?_⟩⟩
    have pL : p ≠ L := ne_of_none e4 hL
    refine ⟨_, rfl, p, n4, 4, rfl, by rw [upd_ne pL]; exact e4, by decide, by decide, fun r5 n5 a5 b5 => ?_⟩
    obtain ⟨v, hv, vm⟩ := atI_lt (l := [V.str (Str.ofString " " ++ z), .str (z ++ Str.ofString " "), .str (z ++ Str.ofString "\n"), .str y]) a5 b5
    refine ⟨L, _, _, _, rfl, rfl, .of (by rw [upd_ne (Ne.symm pL), upd_same]), hv, ?_⟩
    have sb5 := (sb4.new hL (.lst [V.str (Str.ofString " " ++ z), .str (z ++ Str.ofString " "), .str (z ++ Str.ofString "\n"), .str y])).write (.lst [.int n5])
    obtain ⟨u, rfl, tu⟩ : ∃ u, v = .str u ∧ TX u := by
      rcases List.mem_cons.mp vm with rfl | vm
      · exact ⟨_, rfl, (t1.app tz).tx (by decide)⟩
      rcases List.mem_cons.mp vm with rfl | vm
      · exact ⟨_, rfl, (tz.app t1).tx (by decide)⟩
      rcases List.mem_cons.mp vm with rfl | vm
      · exact ⟨_, rfl, (tz.app t2).tx (by decide)⟩
      rw [List.mem_singleton.mp vm]
      refine ⟨_, rfl, by omega, fun c hc => ?_⟩
      rcases my c hc with h | h
      · exact tz.2 c h
      · omega
    exact q u n5 _ tu sb5 upd_same
  have msx : ∀ {r : Int}, 0 ≤ r → r < 16 → ∃ m : Str, atI (ms.map V.str) r = some (.str m) ∧ TXk 50 m := fun {r} h0 h1 => by
    obtain ⟨v, hv, vm⟩ := atI_lt (l := ms.map V.str) h0 (by rw [List.length_map, lM]; exact h1)
    obtain ⟨m, hm, rfl⟩ := List.mem_map.mp vm
    exact ⟨m, hv, tM m hm⟩
  have Mp : M ≠ p := Ne.symm pM
  refine' joinXA (α := List Str × Int) (C := fun v Hx => SameB p H Hx ∧ Hx p = some (.lst [.int v.2]) ∧ Hx D = some (.lst (v.1.map V.str)) ∧ wt v.1 ≤ 200 ∧ ∀ y ∈ v.1, ∀ c ∈ y.cps.toList, c < 128) (st := fun _ => [some (.ref p), some (.str z), some (.int way), some (.int a), some (.str ⟨#[c]⟩), some (.ref D), some (.int spot), some (.ref M)]) (fun rest => _) _
  rotate_left
  · refine ⟨_, rfl, rfl, _, rfl, ite2 (fun _ => ?_) (fun _ => ?_)⟩
    · refine ⟨_, rfl, .inl ⟨rfl, _, .of eD4⟩, _, rfl, _, rfl, _, rfl, p, n4, 16, rfl, e4, by decide, by decide, fun r5 n5 a5 b5 => ?_⟩
      obtain ⟨m, hm, tm⟩ := msx a5 b5
      refine ⟨M, _, _, _, rfl, rfl, .of (by rw [upd_ne Mp]; exact eM4), hm, D, zs.map V.str, spot, .str m, rfl, rfl, by rw [upd_ne (Ne.symm pD)]; exact eD4, sa, by rw [List.length_map]; omega, by rw [List.length_map]; omega, ?_⟩
      refine rest (zs.take spot.toNat ++ m :: zs.drop spot.toNat, n5) _ ⟨?_, ?_, ?_, ?_, ?_⟩
      · exact sameB_put (sb4.write _) hD0 _
      · rw [upd_ne pD, upd_same]
      · rw [upd_same, List.map_append, List.map_cons, List.map_take, List.map_drop]
      · show wt (zs.take spot.toNat ++ m :: zs.drop spot.toNat) ≤ 200
        rw [wt_ins]
        have := tm.1
        omega
      · intro y hy
        rcases List.mem_append.mp hy with hy | hy
        · exact az y (List.mem_of_mem_take hy)
        · rcases List.mem_cons.mp hy with rfl | hy
          · exact tm.2
          · exact az y (List.mem_of_mem_drop hy)
    refine ⟨_, rfl, rfl, _, rfl, ite2 (fun _ => ?_) (fun _ => ?_)⟩
    · have hk : spot.toNat < zs.length := by omega
      have hix : seqIndex? spot (zs.map V.str).length = some spot.toNat := by
        rw [List.length_map]
        exact (ixN_seq (ix_in sa sb)).1
      refine ⟨_, rfl, .inl ⟨rfl, _, .of eD4⟩, _, rfl, D, zs.map V.str, spot, spot.toNat, _, rfl, rfl, eD4, by omega, by omega, hix, by rw [List.getElem?_map, List.getElem?_eq_getElem hk]; rfl, ?_⟩
      refine rest (zs.eraseIdx spot.toNat, n4) _ ⟨sameB_put sb4 hD0 _, by rw [upd_ne pD]; exact e4, ?_, ?_, ?_⟩
      · rw [upd_same]
        show some (HO.lst ((zs.map V.str).eraseIdx spot.toNat)) = some (.lst ((zs.eraseIdx spot.toNat).map V.str))
        rw [List.eraseIdx_eq_take_drop_succ, List.eraseIdx_eq_take_drop_succ, List.map_append, List.map_take, List.map_drop]
      · have := wt_del zs spot.toNat
        show wt (zs.eraseIdx spot.toNat) ≤ 200
        omega
      · exact fun y hy => az y (List.mem_of_mem_eraseIdx hy)
    · refine ⟨_, rfl, _, rfl, p, n4, 16, rfl, e4, by decide, by decide, fun r5 n5 a5 b5 => ?_⟩
      obtain ⟨m, hm, tm⟩ := msx a5 b5
      refine ⟨M, _, _, _, rfl, rfl, .of (by rw [upd_ne Mp]; exact eM4), hm, ?_⟩
      have hk : spot.toNat < zs.length := by omega
      have hix : ixN (zs.map V.str).length spot = some spot.toNat := by
        rw [List.length_map]
        exact ix_in sa sb
      refine ⟨_, rfl, _, rfl, D, zs.map V.str, spot, spot.toNat, rfl, rfl, by rw [upd_ne (Ne.symm pD)]; exact eD4, hix, ?_⟩
      refine rest (zs.set spot.toNat m, n5) _ ⟨sameB_put (sb4.write _) hD0 _, by rw [upd_ne pD, upd_same], ?_, ?_, ?_⟩
      · rw [upd_same, List.map_set]
      · have := wt_set zs m spot.toNat
        have := tm.1
        show wt (zs.set spot.toNat m) ≤ 200
        omega
      · intro y hy
        rcases List.mem_or_eq_of_mem_set hy with hy | rfl
        · exact az y hy
        · exact tm.2
  rintro ⟨ys, n6⟩ H5 ⟨s5, e5, eD5, wy, ay⟩
  refine ⟨rfl, _, rfl, _, D, ys, rfl, rfl, eD5, join_fit wy (by decide), q _ n6 H5 ((join_tx ay wy).tx (by decide)) s5 e5⟩
theorem sc_law : FnScope ["script", "cell", "menu", "deck", "text", "told"] ["script"] (defScope s_law) := ⟨rfl, rfl, rfl, by decide +kernel, rfl, by decide +kernel, by decide +kernel⟩
theorem ok_law (T : Txt K mg t) : FnOk P w K mg base CX0 5 t.f_law t.fd_law ["script"] (sp_law K) := by
  refine T.d_law.F.okB sc_law (fun vs H Q E h => ?_) (fun cdv A outer s H vs Q E hr h => ?_)
  · obtain ⟨a, ns, rfl, _⟩ := h
    rfl
  obtain ⟨a, ns, rfl, hS, h63, q⟩ := h
  have hu64 := hr.units
  have sl : sizeLine = 16777216 := by decide
  refine ⟨_, (bpss_cons (bps_for PassesOwn.never rfl (bpi_list (bpe_op op_cat (bpe_lst (bpa_cons (bpe_op op_pow bpe_int bpe_int) (bpa_nil))) (bpe_slice sl_list (bpv 0) bpo_none (bpo_some bpe_int)))) (bpg_name (k := 1) sc_law.nd rfl (Or.inl rfl)) (bpss_cons (bps_set (k := 3) sc_law.nd rfl (Or.inr rfl) (bpe_call (ok_law_deck T) (hr.mono (by decide)) rfl T.d_law_deck.m T.d_law_deck.F.kp T.d_law_deck.b .nil pass0 (bpa_cons (bpv 1) (bpa_nil))))
    (bpss_cons (bps_set (k := 4) sc_law.nd rfl (Or.inr rfl) (bpe_call (ok_law_text T) (hr.mono (by decide)) rfl T.d_law_text.m T.d_law_text.F.kp T.d_law_text.b .nil pass0 (bpa_cons (bpv 3) (bpa_nil))))
    (bpss_one (bps_for PassesOwn.never rfl (bpi_list (bpe_op op_cat (bpe_lst (bpa_cons (bpv 4) (bpa_nil))) (bpe_comp rfl (N := ["k", "deck", "text"]) (n := 1) (cap := [3, 4]) (blk_of rfl rfl) (bpi_range1 rfl T.z_range (bpa_cons bpe_int (bpa_nil))) (keep_name (by decide)) (fun _ _ _ _ => (bpg_name (k := 0) (show (["k", "deck", "text"] : List Str).Nodup by decide +kernel) rfl (Or.inl rfl))) (fun _ _ _ _ => bpts_nil) (fun _ _ _ _ => (bpe_call (ok_law_spoilt T) (hr.mono (by decide)) rfl T.d_law_spoilt.m T.d_law_spoilt.F.kp T.d_law_spoilt.b .nil pass0 (bpa_cons (bpv 1) ( bpa_cons (bpv 2) (bpa_nil)))))))) (bpg_name (k := 5) sc_law.nd rfl (Or.inl rfl)) (bpss_one (bps_if (bpt_cmpR (op_neD hu64) (bpe_call (ok_law_told T) (hr.mono (by decide)) rfl T.d_law_told.m T.d_law_told.F.kp T.d_law_told.b .nil pass0 (bpa_cons (bpv 5) (bpa_nil))) (bpe_call (ok_law_read T) (hr.mono (by decide)) rfl T.d_law_read.m T.d_law_read.F.kp T.d_law_read.b .nil pass0 (bpa_cons (bpv 5) (bpa_nil))) (nomark _)) (bpss_one (bps_ret bpe_bl)) bpss_nil)))))))
    (bpss_cons (bps_set (k := 2) sc_law.nd rfl (Or.inl rfl) (bpe_lst (bpa_cons bpe_str ( bpa_cons bpe_str ( bpa_cons bpe_str ( bpa_cons bpe_str ( bpa_cons bpe_str ( bpa_cons bpe_str ( bpa_cons bpe_str ( bpa_cons bpe_str ( bpa_cons bpe_str ( bpa_cons bpe_str ( bpa_cons bpe_str (bpa_nil))))))))))))))
    (bpss_cons (bps_set (k := 2) sc_law.nd rfl (Or.inl rfl) (bpe_op op_cat (bpv 2) (bpe_lst (bpa_cons bpe_str ( bpa_cons bpe_str ( bpa_cons (bpe_op op_add_str bpe_str (bpe_op op_mul_str bpe_str bpe_int)) ( bpa_cons bpe_str (bpa_nil))))))))
    (bpss_one (bps_ret (bpe_cmpR (op_eqD hu64) (bpe_comp rfl (N := ["told"]) (n := 1) (cap := []) (blk_of rfl rfl) (bpi_list (bpv 2)) (keep_name (by decide)) (fun _ _ _ _ => (bpg_name (k := 0) (show (["told"] : List Str).Nodup by decide +kernel) rfl (Or.inl rfl))) (fun _ _ _ _ => (bpts_one (bpt_cmp (bpc_notN (bpe_call (ok_law_told T) (hr.mono (by decide)) rfl T.d_law_told.m T.d_law_told.F.kp T.d_law_told.b .nil pass0 (bpa_cons (bpv 0) (bpa_nil))))))) (fun _ _ _ _ => (bpv 0))) (bpe_lst bpa_nil) (nomark _))))))), ?_⟩
  refine ⟨_, _, rfl, rfl, ⟨by decide, by decide, by decide⟩, (by show 1 ≤ sizeLine; decide), fun p1 h1 => ?_⟩
  have s1 := same_upd h1 (.lst [.int (10 ^ (18 : Int).toNat)])
  refine ⟨_, rfl, _, rfl, a, _, rfl, s1.seq hS, fun p2 h2 => ?_⟩
  obtain ⟨ms, em, lm⟩ := cutI ns none (some 30)
  have p12 : p1 ≠ p2 := ne_of_none upd_same h2
  have lc : (cutV (ns.map V.int) none (some 30)).length ≤ 63 := by rw [em, List.length_map]; omega
  have s2 := same_upd h2 (.lst (cutV (ns.map V.int) none (some 30)))
  refine ⟨p1, p2, _, _, rfl, rfl, by rw [upd_ne p12, upd_same], upd_same, bigE (by rw [List.length_singleton]; omega), fun p3 h3 => ?_⟩
  have s02 := s1.trans s2
  generalize upd (upd H p1 (.lst [.int (10 ^ (18 : Int).toNat)])) p2 (.lst (cutV (ns.map V.int) none (some 30))) = H2 at h3 s02
  rw [em]
  have s3 := same_upd h3 (.lst ([.int (10 ^ (18 : Int).toNat)] ++ ms.map V.int))
  have hq : SqL K (upd H2 p3 (.lst ([.int (10 ^ (18 : Int).toNat)] ++ ms.map V.int))) p3 ([.int (10 ^ (18 : Int).toNat)] ++ ms.map V.int) := .of upd_same
  generalize upd H2 p3 (.lst ([.int (10 ^ (18 : Int).toNat)] ++ ms.map V.int)) = H3 at hq
  refine ⟨p3, rfl, ⟨_, hq⟩, for_list (K := K) (a := p3) (xs := [.int (10 ^ (18 : Int).toNat)] ++ ms.map V.int)
    (fun i σ H4 => ∃ (o1 o3 o4 o5 : Option V), σ = [some (.ref a), o1, none, o3, o4, o5] ∧ Same H3 H4)
    ⟨_, _, _, _, rfl, Same.refl _⟩ (fun i σ H4 _ z => by obtain ⟨_, _, _, _, _, s4⟩ := z; exact s4.seq hq) ?_ ?_⟩
  · rintro i x σ H4 hx ⟨o1, o3, o4, o5, rfl, s4⟩
    obtain ⟨cc, rfl⟩ : ∃ cc, x = .int cc := by
      have hm := List.mem_of_getElem? hx
      rcases List.mem_append.mp hm with hm | hm
      · exact ⟨_, List.mem_singleton.mp hm⟩
      · obtain ⟨z, _, e⟩ := List.mem_map.mp hm
        exact ⟨z, e.symm⟩
    refine ⟨_, rfl, cc, rfl, fun pd n hd => ⟨_, rfl, pd, n, rfl, upd_same, fun z m H5 tz sb e5 => ?_⟩⟩
    have s5 : Same H4 H5 := fun b o e => sb b o (ne_of_none e hd) (by rw [upd_ne (ne_of_none e hd)]; exact e)
    refine ⟨_, rfl, (by show 1 ≤ sizeLine; decide), fun L hL => ?_⟩
    have pL : pd ≠ L := ne_of_none e5 hL
    have kL := same_upd hL (.lst [.str z])
    have eL : (upd H5 L (.lst [.str z])) L = some (.lst [.str z]) := upd_same
    have e6 := kL _ _ e5
    generalize upd H5 L (.lst [.str z]) = H6 at kL eL e6
    refine ⟨3, rfl, (by decide), (by decide), fun C hC => ?_⟩
    have pC : pd ≠ C := ne_of_none e6 hC
    refine comp_range (fun j H7 => ∃ (zs : List Str) (m7 : Int), SameB pd H6 H7 ∧ H7 pd = some (.lst [.int m7]) ∧ H7 C = some (.lst (zs.map V.str)) ∧ zs.length = j ∧ ∀ y ∈ zs, TX y)
      ⟨[], m, (same_upd hC _).b pd, by rw [upd_ne pC]; exact e6, upd_same, rfl, fun _ h => (nomatch h)⟩ ?_ ?_
    · rintro j H7 hj ⟨zs, m7, s7, e7, eC, lz, tzs⟩
      refine ⟨_, rfl, _, rfl, pd, m7, z, rfl, e7, tz, fun y m8 H8 ty s8 e8 => ?_⟩
      refine ⟨_, s8 C _ (Ne.symm pC) eC, by rw [List.length_map]; omega, zs ++ [y], m8, sameB_put (s7.trans s8) hC _, by rw [upd_ne pC]; exact e8, by rw [upd_same, List.map_append]; rfl, by rw [List.length_append, lz]; rfl, fun u hu => ?_⟩
      rcases List.mem_append.mp hu with hu | hu
      · exact tzs u hu
      · rw [List.mem_singleton.mp hu]; exact ty
    rintro H7 ⟨zs, m7, s7, e7, eC, lz, tzs⟩
    have s47 : Same H4 H7 := SameB.same (s5.trans kL) hd s7
    refine ⟨L, C, _, _, rfl, rfl, s7 _ _ (Ne.symm pL) eL, eC, bigE (by rw [List.length_map, lz]; show 1 + 3 ≤ _; omega), fun F hF => ?_⟩
    have kF := same_upd hF (.lst ([.str z] ++ zs.map V.str))
    have eF : (upd H7 F (.lst ([.str z] ++ zs.map V.str))) F = some (.lst ((z :: zs).map V.str)) := upd_same
    have s38 := (s4.trans s47).trans kF
    generalize upd H7 F (.lst ([.str z] ++ zs.map V.str)) = H8 at eF s38
    refine ⟨F, rfl, ⟨_, .of eF⟩, for_list (K := K) (a := F) (xs := (z :: zs).map V.str) (fun j σ H9 => ∃ o5, σ = [some (.ref a), some (.int cc), none, some (.ref pd), some (.str z), o5] ∧ Same H8 H9)
      ⟨_, rfl, Same.refl _⟩ (fun j σ H9 _ z => by obtain ⟨_, _, s9⟩ := z; exact .of (s9 _ _ eF)) ?_ ?_⟩
    · rintro j y σ H9 hy ⟨o5, rfl, s9⟩
      obtain ⟨y0, ym, rfl⟩ := List.mem_map.mp (List.mem_of_getElem? hy)
      have ty : TX y0 := by
        rcases List.mem_cons.mp ym with rfl | ym
        · exact tz.tx (by decide)
        · exact tzs y0 ym
      refine ⟨_, rfl, y0, rfl, ty, fun v1 Ha sa r1 => ⟨_, rfl, y0, rfl, ty, fun v2 Hb sb2 r2 => ?_⟩⟩
      refine ⟨_, _, r1.mono sb2, r2, told_ok _ 6, told_ok _ 6, fun _ => ⟨_, rfl, iteF ⟨_, rfl, (s9.trans sa).trans sb2⟩⟩, fun z => absurd rfl z⟩
    · rintro σ H9 ⟨o5, rfl, s9⟩
      exact ⟨_, _, _, _, rfl, s38.trans s9⟩
  · rintro σ H4 ⟨o1, o3, o4, o5, rfl, s4⟩
    refine ⟨(by show 11 ≤ sizeLine; decide), fun M1 h1 => ?_⟩
    refine ⟨_, rfl, _, _, rfl, rfl, by decide, by decide, by decide +kernel, by decide +kernel, _, _, rfl, rfl, by decide +kernel, (by show 4 ≤ sizeLine; decide), fun M2 h2 => ?_⟩
    have d12 : M1 ≠ M2 := ne_of_none upd_same h2
    refine ⟨M1, M2, _, _, rfl, rfl, by rw [upd_ne d12, upd_same], upd_same, bigE (by show 11 + 4 ≤ _; omega), fun M3 h3 => ?_⟩
    generalize eH : (upd (upd (upd H4 M1 _) M2 _) M3 _) = H5
    have e3 : H5 M3 = some (.lst (menuS.map V.str)) := by rw [← eH, upd_same]; rfl
    clear eH
    refine ⟨_, rfl, M3, rfl, ⟨_, .of e3⟩, fun C hC => comp_list (K := K) (a := M3) (xs := menuS.map V.str) (fun j H6 => Same H5 H6 ∧ H6 C = some (.lst [])) ⟨same_upd hC _, upd_same⟩ (fun j H6 _ z => .of (z.1 _ _ e3)) ?_ ?_⟩
    · rintro j y H6 hy ⟨s6, eC⟩
      obtain ⟨y0, ym, rfl⟩ := List.mem_map.mp (List.mem_of_getElem? hy)
      refine ⟨_, rfl, y0, rfl, menu_tx y0 ym, fun v Ha sa r => ?_⟩
      rw [noneF_told (menu_none y0 ym)] at r
      cases r
      exact ⟨_, rfl, iteF ⟨s6.trans sa, sa _ _ eC⟩⟩
    · rintro H6 ⟨s6, eC⟩
      refine ⟨(by show 0 ≤ sizeLine; decide), fun E1 hE => ?_⟩
      have dE : C ≠ E1 := ne_of_none eC hE
      exact ⟨.list [], .list [], .lst (.of (by rw [upd_ne dE]; exact eC)) .nil, .lst (.of upd_same) .nil, rfl, rfl, fun _ => q _, fun z => absurd rfl z⟩
end
theorem all_mk {l : PySem.W.OpenLaw} {w : World} {K : PySem.W.Frag} {h : Heap} {mg : Str → Option Value} {fa f1 f2 f3 f4 f5 f6 f7 f8 f9 f10 f11 : Addr} (X : K.In h) (G : h.Ns mainGlobals mg) (hfa : mg "law" = some (.ref fa))
    {od1 an1 od2 an2 od3 an3 od4 an4 od5 an5 od6 an6 od7 an7 od8 an8 od9 an9 od10 an10 od11 an11 : Option Addr} {sl1 sl2 sl3 sl4 sl5 sl6 sl7 sl8 sl9 sl10 sl11 : Array (Option Value)} {oc1 kV1 dc1 pm1 cd1 ct1 oc2 kV2 dc2 pm2 cd2 ct2 oc3 kV3 dc3 pm3 cd3 ct3 oc4 kV4 dc4 pm4 cd4 ct4 oc5 kV5 dc5 pm5 cd5 ct5 oc6 kV6 dc6 pm6 cd6 ct6 oc7 kV7 dc7 pm7 cd7 ct7 oc8 kV8 dc8 pm8 cd8 ct8 oc9 kV9 dc9 pm9 cd9 ct9 oc10 kV10 dc10 pm10 cd10 ct10 oc11 kV11 dc11 pm11 cd11 ct11 : Value}
    (a1 : PySem.W.nsIn K mainGlobals "read_fault" = some (some (.ref f1))) (l1 : K.lookup f1 = some ⟨oc1, od1, .func (PySem.W.fnOf "read_fault" "read_fault" (defArgs s_read_fault) (defBody s_read_fault) (defScope s_read_fault) .none kV1 dc1 pm1 an1 cd1 ct1), sl1⟩) (c1 : PySem.W.codeIn K cd1 "read_fault" = true) (k1 : PySem.W.keepIn K (.ref f1) = true)
    (a2 : PySem.W.nsIn K mainGlobals "read_row" = some (some (.ref f2))) (l2 : K.lookup f2 = some ⟨oc2, od2, .func (PySem.W.fnOf "read_row" "read_row" (defArgs s_read_row) (defBody s_read_row) (defScope s_read_row) .none kV2 dc2 pm2 an2 cd2 ct2), sl2⟩) (c2 : PySem.W.codeIn K cd2 "read_row" = true) (k2 : PySem.W.keepIn K (.ref f2) = true)
    (a3 : PySem.W.nsIn K mainGlobals "read_number" = some (some (.ref f3))) (l3 : K.lookup f3 = some ⟨oc3, od3, .func (PySem.W.fnOf "read_number" "read_number" (defArgs s_read_number) (defBody s_read_number) (defScope s_read_number) .none kV3 dc3 pm3 an3 cd3 ct3), sl3⟩) (c3 : PySem.W.codeIn K cd3 "read_number" = true) (k3 : PySem.W.keepIn K (.ref f3) = true)
    (a4 : PySem.W.nsIn K mainGlobals "_law_stir" = some (some (.ref f4))) (l4 : K.lookup f4 = some ⟨oc4, od4, .func (PySem.W.fnOf "_law_stir" "_law_stir" (defArgs s_law_stir) (defBody s_law_stir) (defScope s_law_stir) .none kV4 dc4 pm4 an4 cd4 ct4), sl4⟩) (c4 : PySem.W.codeIn K cd4 "_law_stir" = true) (k4 : PySem.W.keepIn K (.ref f4) = true)
    (a5 : PySem.W.nsIn K mainGlobals "_law_deck" = some (some (.ref f5))) (l5 : K.lookup f5 = some ⟨oc5, od5, .func (PySem.W.fnOf "_law_deck" "_law_deck" (defArgs s_law_deck) (defBody s_law_deck) (defScope s_law_deck) .none kV5 dc5 pm5 an5 cd5 ct5), sl5⟩) (c5 : PySem.W.codeIn K cd5 "_law_deck" = true) (k5 : PySem.W.keepIn K (.ref f5) = true)
    (a6 : PySem.W.nsIn K mainGlobals "_law_take" = some (some (.ref f6))) (l6 : K.lookup f6 = some ⟨oc6, od6, .func (PySem.W.fnOf "_law_take" "_law_take" (defArgs s_law_take) (defBody s_law_take) (defScope s_law_take) .none kV6 dc6 pm6 an6 cd6 ct6), sl6⟩) (c6 : PySem.W.codeIn K cd6 "_law_take" = true) (k6 : PySem.W.keepIn K (.ref f6) = true)
    (a7 : PySem.W.nsIn K mainGlobals "_law_text" = some (some (.ref f7))) (l7 : K.lookup f7 = some ⟨oc7, od7, .func (PySem.W.fnOf "_law_text" "_law_text" (defArgs s_law_text) (defBody s_law_text) (defScope s_law_text) .none kV7 dc7 pm7 an7 cd7 ct7), sl7⟩) (c7 : PySem.W.codeIn K cd7 "_law_text" = true) (k7 : PySem.W.keepIn K (.ref f7) = true)
    (a8 : PySem.W.nsIn K mainGlobals "_law_read" = some (some (.ref f8))) (l8 : K.lookup f8 = some ⟨oc8, od8, .func (PySem.W.fnOf "_law_read" "_law_read" (defArgs s_law_read) (defBody s_law_read) (defScope s_law_read) .none kV8 dc8 pm8 an8 cd8 ct8), sl8⟩) (c8 : PySem.W.codeIn K cd8 "_law_read" = true) (k8 : PySem.W.keepIn K (.ref f8) = true)
    (a9 : PySem.W.nsIn K mainGlobals "_law_told" = some (some (.ref f9))) (l9 : K.lookup f9 = some ⟨oc9, od9, .func (PySem.W.fnOf "_law_told" "_law_told" (defArgs s_law_told) (defBody s_law_told) (defScope s_law_told) .none kV9 dc9 pm9 an9 cd9 ct9), sl9⟩) (c9 : PySem.W.codeIn K cd9 "_law_told" = true) (k9 : PySem.W.keepIn K (.ref f9) = true)
    (a10 : PySem.W.nsIn K mainGlobals "_law_spoilt" = some (some (.ref f10))) (l10 : K.lookup f10 = some ⟨oc10, od10, .func (PySem.W.fnOf "_law_spoilt" "_law_spoilt" (defArgs s_law_spoilt) (defBody s_law_spoilt) (defScope s_law_spoilt) .none kV10 dc10 pm10 an10 cd10 ct10), sl10⟩) (c10 : PySem.W.codeIn K cd10 "_law_spoilt" = true) (k10 : PySem.W.keepIn K (.ref f10) = true)
    (a11 : PySem.W.nsIn K mainGlobals "law" = some (some (.ref f11))) (l11 : K.lookup f11 = some ⟨oc11, od11, .func (PySem.W.fnOf "law" "law" (defArgs s_law) (defBody s_law) (defScope s_law) .none kV11 dc11 pm11 an11 cd11 ct11), sl11⟩) (c11 : PySem.W.codeIn K cd11 "law" = true) (k11 : PySem.W.keepIn K (.ref f11) = true)
    (z1 : PySem.W.nsIn K mainGlobals "ValueError" = some none)
    (z2 : PySem.W.nsIn K mainGlobals "int" = some none)
    (z3 : PySem.W.nsIn K mainGlobals "isinstance" = some none)
    (z4 : PySem.W.nsIn K mainGlobals "len" = some none)
    (z5 : PySem.W.nsIn K mainGlobals "range" = some none)
    (z6 : PySem.W.nsIn K mainGlobals "str" = some none)
    (z7 : PySem.W.nsIn K mainGlobals "tuple" = some none)
    {s1_ : Tok} (as1 : PySem.W.nsIn K mainGlobals "FIGURES" = some (some (.str "0123456789" s1_)))
    {x1_ : Addr} (ax1 : PySem.W.nsIn K mainGlobals "StuckError" = some (some (.ref x1_))) (kx1 : XcOk K x1_ "ValueError" "ValueError.__new__" [.type "ValueError", .type "Exception", .type "BaseException", .type "object"])
    {x2_ : Addr} (ax2 : PySem.W.nsIn K mainGlobals "NoWorks" = some (some (.ref x2_))) (kx2 : XcOk K x2_ "ValueError" "ValueError.__new__" [.type "ValueError", .type "Exception", .type "BaseException", .type "object"])
    {x3_ : Addr} (ax3 : PySem.W.nsIn K mainGlobals "NoRow" = some (some (.ref x3_))) (kx3 : XcOk K x3_ "ValueError" "ValueError.__new__" [.type "ValueError", .type "Exception", .type "BaseException", .type "object"])
    {x4_ : Addr} (ax4 : PySem.W.nsIn K mainGlobals "NoFault" = some (some (.ref x4_))) (kx4 : XcOk K x4_ "ValueError" "ValueError.__new__" [.type "ValueError", .type "Exception", .type "BaseException", .type "object"])
    {x5_ : Addr} (ax5 : PySem.W.nsIn K mainGlobals "NoText" = some (some (.ref x5_))) (kx5 : XcOk K x5_ "ValueError" "ValueError.__new__" [.type "ValueError", .type "Exception", .type "BaseException", .type "object"])
    {x6_ : Addr} (ax6 : PySem.W.nsIn K mainGlobals "NoOrder" = some (some (.ref x6_))) (kx6 : XcOk K x6_ "ValueError" "ValueError.__new__" [.type "ValueError", .type "Exception", .type "BaseException", .type "object"])
    {x7_ : Addr} (ax7 : PySem.W.nsIn K mainGlobals "TooMany" = some (some (.ref x7_))) (kx7 : XcOk K x7_ "ValueError" "ValueError.__new__" [.type "ValueError", .type "Exception", .type "BaseException", .type "object"])
    (ff1 : PySem.W.kitAny K (.ref x5_) [.ref x4_, .ref x6_, .ref x3_, .ref x2_, .ref x7_] = some false)
    (ff2 : PySem.W.kitOne K (.ref x5_) (.ref x5_) = some true)
    (ff3 : PySem.W.kitOne K (.ref x5_) (.type "ValueError") = some true)
    (ff4 : (mroOf K x5_).tail.contains (.ref x1_) = true)
    : ∃ fd : FuncData, (∀ (s : Shared) (v : Value), BindsTo s fd ⟨[v], []⟩ [("script", v)]) ∧ ∀ base : Heap, K.In base → base.Ns mainGlobals mg → FnOk l.prog w K mg base CX0 5 fa fd ["script"] (sp_law K) := by
  have e := hfa.symm.trans (PySem.W.mg_of X G a11)
  cases e
  have F1 := fun_mk (st := s_read_fault) l1 c1 k1
  have b1 := F1.binds (ps := ["text"]) fun _ _ _ _ _ _ us hl => by obtain ⟨x0, e⟩ := lenV1 hl; subst e; rfl
  have F2 := fun_mk (st := s_read_row) l2 c2 k2
  have b2 := F2.binds (ps := ["row"]) fun _ _ _ _ _ _ us hl => by obtain ⟨x0, e⟩ := lenV1 hl; subst e; rfl
  have F3 := fun_mk (st := s_read_number) l3 c3 k3
  have b3 := F3.binds (ps := ["text"]) fun _ _ _ _ _ _ us hl => by obtain ⟨x0, e⟩ := lenV1 hl; subst e; rfl
  have F4 := fun_mk (st := s_law_stir) l4 c4 k4
  have b4 := F4.binds (ps := ["cell", "k"]) fun _ _ _ _ _ _ us hl => by obtain ⟨x0, x1, e⟩ := lenV2 hl; subst e; rfl
  have F5 := fun_mk (st := s_law_deck) l5 c5 k5
  have b5 := F5.binds (ps := ["cell"]) fun _ _ _ _ _ _ us hl => by obtain ⟨x0, e⟩ := lenV1 hl; subst e; rfl
  have F6 := fun_mk (st := s_law_take) l6 c6 k6
  have b6 := F6.binds (ps := ["deck", "many"]) fun _ _ _ _ _ _ us hl => by obtain ⟨x0, x1, e⟩ := lenV2 hl; subst e; rfl
  have F7 := fun_mk (st := s_law_text) l7 c7 k7
  have b7 := F7.binds (ps := ["deck"]) fun _ _ _ _ _ _ us hl => by obtain ⟨x0, e⟩ := lenV1 hl; subst e; rfl
  have F8 := fun_mk (st := s_law_read) l8 c8 k8
  have b8 := F8.binds (ps := ["text"]) fun _ _ _ _ _ _ us hl => by obtain ⟨x0, e⟩ := lenV1 hl; subst e; rfl
  have F9 := fun_mk (st := s_law_told) l9 c9 k9
  have b9 := F9.binds (ps := ["text"]) fun _ _ _ _ _ _ us hl => by obtain ⟨x0, e⟩ := lenV1 hl; subst e; rfl
  have F10 := fun_mk (st := s_law_spoilt) l10 c10 k10
  have b10 := F10.binds (ps := ["deck", "text"]) fun _ _ _ _ _ _ us hl => by obtain ⟨x0, x1, e⟩ := lenV2 hl; subst e; rfl
  have F11 := fun_mk (st := s_law) l11 c11 k11
  have b11 := F11.binds (ps := ["script"]) fun _ _ _ _ _ _ us hl => by obtain ⟨x0, e⟩ := lenV1 hl; subst e; rfl
  refine ⟨PySem.W.fnOf "law" "law" (defArgs s_law) (defBody s_law) (defScope s_law) .none kV11 dc11 pm11 an11 cd11 ct11, fun s v => .of_eq rfl, fun base _ _ => ?_⟩
  exact ok_law (t := ⟨f1, _, f2, _, f3, _, f4, _, f5, _, f6, _, f7, _, f8, _, f9, _, f10, _, _, _, s1_, x1_, x2_, x3_, x4_, x5_, x6_, x7_⟩) ⟨⟨F1, b1, PySem.W.mg_of X G a1⟩, ⟨F2, b2, PySem.W.mg_of X G a2⟩, ⟨F3, b3, PySem.W.mg_of X G a3⟩, ⟨F4, b4, PySem.W.mg_of X G a4⟩, ⟨F5, b5, PySem.W.mg_of X G a5⟩, ⟨F6, b6, PySem.W.mg_of X G a6⟩, ⟨F7, b7, PySem.W.mg_of X G a7⟩, ⟨F8, b8, PySem.W.mg_of X G a8⟩, ⟨F9, b9, PySem.W.mg_of X G a9⟩, ⟨F10, b10, PySem.W.mg_of X G a10⟩, ⟨F11, b11, PySem.W.mg_of X G a11⟩, PySem.W.mg_none_of X G z1, PySem.W.mg_none_of X G z2, PySem.W.mg_none_of X G z3, PySem.W.mg_none_of X G z4, PySem.W.mg_none_of X G z5, PySem.W.mg_none_of X G z6, PySem.W.mg_none_of X G z7, PySem.W.mg_of X G as1, PySem.W.mg_of X G ax1, kx1, PySem.W.mg_of X G ax2, kx2, PySem.W.mg_of X G ax3, kx3, PySem.W.mg_of X G ax4, kx4, PySem.W.mg_of X G ax5, kx5, PySem.W.mg_of X G ax6, kx6, PySem.W.mg_of X G ax7, kx7, ff1, ff2, ff3, ff4⟩
theorem walk {l : PySem.W.OpenLaw} {q : Program} {loose : List Str} {XP : (Str → Option Value) → Heap → Prop} {YP : World → Heap → Prop} {d : DefRec} {K : Params → PySem.W.Frag} (hn : l.most = some 63) (hdf : d.params.defaults = [])
    (hY : ∀ (w : World) (h : Heap), YP w h → (K w.params).In h)
    (F : ∀ (w : World) (mg : Str → Option Value) (fa : Addr) (h : Heap), (K w.params).In h → h.Ns mainGlobals mg → mg d.name = some (.ref fa) →
      ∃ fd : FuncData, (∀ (s : Shared) (u : Value), BindsTo s fd ⟨[u], []⟩ [("script", u)]) ∧ ∀ base : Heap, (K w.params).In base → base.Ns mainGlobals mg → FnOk l.prog w (K w.params) mg base CX0 5 fa fd ["script"] (sp_law (K w.params))) :
    PySem.W.WalkO q loose XP YP l.row.toRowW d [] (fun f vs => PySem.call f vs) :=
  L2.walk_of (n := 63) (k := 5) (x := "script") (CX := fun _ => CX0) (sp := fun w => sp_law (K w.params)) hn (by decide) hdf ⟨rfl, by decide, by decide⟩ hY F (fun _ _ a ns hl _ hS => ⟨a, ns, rfl, hS, hl, fun _ => rfl⟩) fun _ _ _ _ _ z => z
end My
open PySem PySem.W PyProof.Rows
set_option maxRecDepth 100000 in
set_option maxHeartbeats 0 in
theorem PySem.Challenge.cw_stuckwires_k63_texts_of_no_fault_holds : PySem.Challenge.rw_stuckwires_k63_texts_of_no_fault.Holds := by
  w_on; o_law; k_head; (case hw => w_witness2)
  k_fill
  refine My.walk (l := PySem.Challenge.rw_stuckwires_k63_texts_of_no_fault) rfl rfl (fun w h Y => PySem.W.kIn_of Y) ?F
  case F =>
    intro w mg fa h KX G hmg
    refine' My.all_mk KX G hmg ?a1 ?l1 ?c1 ?k1 ?a2 ?l2 ?c2 ?k2 ?a3 ?l3 ?c3 ?k3 ?a4 ?l4 ?c4 ?k4 ?a5 ?l5 ?c5 ?k5 ?a6 ?l6 ?c6 ?k6 ?a7 ?l7 ?c7 ?k7 ?a8 ?l8 ?c8 ?k8 ?a9 ?l9 ?c9 ?k9 ?a10 ?l10 ?c10 ?k10 ?a11 ?l11 ?c11 ?k11 ?z1 ?z2 ?z3 ?z4 ?z5 ?z6 ?z7 ?as1 ?ax1 ?kx1 ?ax2 ?kx2 ?ax3 ?kx3 ?ax4 ?kx4 ?ax5 ?kx5 ?ax6 ?kx6 ?ax7 ?kx7 ?ff1 ?ff2 ?ff3 ?ff4
    (case a1 => k_is)
    (case l1 => k_is)
    (case c1 => k_is)
    (case k1 => k_is)
    (case a2 => k_is)
    (case l2 => k_is)
    (case c2 => k_is)
    (case k2 => k_is)
    (case a3 => k_is)
    (case l3 => k_is)
    (case c3 => k_is)
    (case k3 => k_is)
    (case a4 => k_is)
    (case l4 => k_is)
    (case c4 => k_is)
    (case k4 => k_is)
    (case a5 => k_is)
    (case l5 => k_is)
    (case c5 => k_is)
    (case k5 => k_is)
    (case a6 => k_is)
    (case l6 => k_is)
    (case c6 => k_is)
    (case k6 => k_is)
    (case a7 => k_is)
    (case l7 => k_is)
    (case c7 => k_is)
    (case k7 => k_is)
    (case a8 => k_is)
    (case l8 => k_is)
    (case c8 => k_is)
    (case k8 => k_is)
    (case a9 => k_is)
    (case l9 => k_is)
    (case c9 => k_is)
    (case k9 => k_is)
    (case a10 => k_is)
    (case l10 => k_is)
    (case c10 => k_is)
    (case k10 => k_is)
    (case a11 => k_is)
    (case l11 => k_is)
    (case c11 => k_is)
    (case k11 => k_is)
    (case z1 => k_is)
    (case z2 => k_is)
    (case z3 => k_is)
    (case z4 => k_is)
    (case z5 => k_is)
    (case z6 => k_is)
    (case z7 => k_is)
    (case as1 => k_is)
    (case ax1 => k_is)
    (case kx1 => exact ⟨by kernel_rfl, PySem.F.attr_ValueError, by kernel_rfl, by kernel_rfl, by kernel_rfl, by decide, by decide⟩)
    (case ax2 => k_is)
    (case kx2 => exact ⟨by kernel_rfl, PySem.F.attr_ValueError, by kernel_rfl, by kernel_rfl, by kernel_rfl, by decide, by decide⟩)
    (case ax3 => k_is)
    (case kx3 => exact ⟨by kernel_rfl, PySem.F.attr_ValueError, by kernel_rfl, by kernel_rfl, by kernel_rfl, by decide, by decide⟩)
    (case ax4 => k_is)
    (case kx4 => exact ⟨by kernel_rfl, PySem.F.attr_ValueError, by kernel_rfl, by kernel_rfl, by kernel_rfl, by decide, by decide⟩)
    (case ax5 => k_is)
    (case kx5 => exact ⟨by kernel_rfl, PySem.F.attr_ValueError, by kernel_rfl, by kernel_rfl, by kernel_rfl, by decide, by decide⟩)
    (case ax6 => k_is)
    (case kx6 => exact ⟨by kernel_rfl, PySem.F.attr_ValueError, by kernel_rfl, by kernel_rfl, by kernel_rfl, by decide, by decide⟩)
    (case ax7 => k_is)
    (case kx7 => exact ⟨by kernel_rfl, PySem.F.attr_ValueError, by kernel_rfl, by kernel_rfl, by kernel_rfl, by decide, by decide⟩)
    (case ff1 => kernel_rfl)
    (case ff2 => kernel_rfl)
    (case ff3 => kernel_rfl)
    (case ff4 => kernel_rfl)

