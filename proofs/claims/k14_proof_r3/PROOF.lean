import PyProof.Rows.All
import Wide.All
import OpenK.AllK
import Wide.FinOn
import Lean
import PyProof.EqAt
import PyProof.EqKinds
import PyProof.TupleCall
import PySem.Challenge.RW_chairclans_k14_dealt_due_first
section
set_option Elab.async false
set_option linter.all false
set_option maxRecDepth 100000
namespace L2
open PySem PySem.Spec PyProof.Rows

noncomputable abbrev Key := Sum Int Str
noncomputable def keyIs : Key → Value → Bool
  | .inl k, v => Value.isInt k v
  | .inr x, v => Value.isStrOf x v
noncomputable def keyH (w : World) : Key → Int
  | .inl k => hashInt k
  | .inr x => hashStr w x
theorem keyIs_shape : ∀ {k : Key} {v : Value}, keyIs k v = true → (∃ i t, k = Sum.inl i ∧ v = Value.int i t) ∨ (∃ x t, k = Sum.inr x ∧ v = Value.str x t)
  | .inl i, v, h => by
    obtain ⟨t, e⟩ := Value.isInt_shape (k := i) (v := v) h
    exact .inl ⟨i, t, rfl, e⟩
  | .inr x, v, h => by
    obtain ⟨t, e⟩ := Value.isStrOf_shape (x := x) (v := v) h
    exact .inr ⟨x, t, rfl, e⟩
theorem key_ll (a b : Int) : decide ((Sum.inl a : Key) = Sum.inl b) = (a == b) := by
  by_cases e : a = b
  · subst e; simp
  · have h : ¬ (Sum.inl a : Key) = Sum.inl b := fun q => e (Sum.inl.inj q)
    rw [decide_eq_false h]
    exact (beq_eq_false_iff_ne.mpr e).symm
theorem key_rr (a b : Str) : decide ((Sum.inr a : Key) = Sum.inr b) = decide (a = b) := by
  by_cases e : a = b
  · subst e; simp
  · have h : ¬ (Sum.inr a : Key) = Sum.inr b := fun q => e (Sum.inr.inj q)
    rw [decide_eq_false h, decide_eq_false e]
theorem key_lr (a : Int) (b : Str) : decide ((Sum.inl a : Key) = Sum.inr b) = false := decide_eq_false (fun q => nomatch q)
theorem key_rl (a : Str) (b : Int) : decide ((Sum.inr a : Key) = Sum.inl b) = false := decide_eq_false (fun q => nomatch q)

noncomputable def mixKind (prog : Program) (w : World) : PySem.KeyKind prog w Key where
  is := keyIs
  hash := keyH w
  inj := fun v a b ha hb => by
    rcases keyIs_shape ha with ⟨i, t, rfl, rfl⟩ | ⟨x, t, rfl, rfl⟩
    · rcases keyIs_shape hb with ⟨j, u, rfl, e⟩ | ⟨y, u, rfl, e⟩
      · injection e with e1 _; rw [e1]
      · exact nomatch e
    · rcases keyIs_shape hb with ⟨j, u, rfl, e⟩ | ⟨y, u, rfl, e⟩
      · exact nomatch e
      · injection e with e1 _; rw [e1]
  byValue := fun k v h => by
    rcases keyIs_shape h with ⟨i, t, rfl, rfl⟩ | ⟨x, t, rfl, rfl⟩ <;> rfl
  pyHash := fun hv h => by
    rcases keyIs_shape hv with ⟨i, t, rfl, rfl⟩ | ⟨x, t, rfl, rfl⟩
    · exact wpAny_pyHash_int h
    · exact wpAny_pyHash_str h
  eqBool := fun hu hv h => by
    rcases keyIs_shape hu with ⟨i, t, rfl, rfl⟩ | ⟨x, t, rfl, rfl⟩
    · rcases keyIs_shape hv with ⟨j, u, rfl, rfl⟩ | ⟨y, u, rfl, rfl⟩
      · rw [key_ll] at h; exact wpAny_eqBool_int h
      · rw [key_lr] at h; exact SeqAt.EqAt.int_str i t y u _ _ _ _ h
    · rcases keyIs_shape hv with ⟨j, u, rfl, rfl⟩ | ⟨y, u, rfl, rfl⟩
      · rw [key_rl] at h; exact SeqAt.EqAt.str_int x t j u _ _ _ _ h
      · rw [key_rr] at h; exact wpAny_eqBool_str h
  «strs» := fun k x t v h => by
    rcases keyIs_shape h with ⟨i, u, rfl, e⟩ | ⟨y, u, rfl, e⟩
    · exact nomatch e
    · injection e with e1 _
      subst e1
      cases v <;> rfl

end L2

namespace L2
open PySem PySem.Spec PyProof.Rows

inductive V where
  | non | bl (b : Bool) | int (i : Int) | str (x : Str) | byt (b : Array UInt8) | flt (b : UInt64) | ref (a : Addr) | ty (n : String)
  deriving DecidableEq

noncomputable def RelV : V → Value → Prop
  | .non, u => u = Value.none
  | .bl b, u => u = Value.bool b
  | .int i, u => ∃ t, u = Value.int i t
  | .str x, u => ∃ t, u = Value.str x t
  | .byt b, u => ∃ t, u = Value.bytes b t
  | .flt b, u => ∃ t, u = Value.float b t
  | .ref a, u => u = Value.ref a
  | .ty n, u => u = Value.type n

noncomputable abbrev Vals : List V → List Value → Prop := Paired RelV
theorem Vals.length {xs : List V} {us : List Value} (r : Vals xs us) : xs.length = us.length := Paired.length r
theorem Vals.get : ∀ {xs : List V} {us : List Value} {i : Nat} {x : V}, Vals xs us → xs[i]? = some x → ∃ u, us[i]? = some u ∧ RelV x u
  | _, _, _, _, .nil, e => by simp at e
  | _, _, 0, _, .cons r _, e => by simp at e; subst e; exact ⟨_, rfl, r⟩
  | _, _, i + 1, x, .cons _ t, e => by
    obtain ⟨u, h1, h2⟩ := Vals.get (i := i) (x := x) t (by simpa using e)
    exact ⟨u, by simpa using h1, h2⟩
theorem Vals.set {x : V} {u : Value} (r : RelV x u) : ∀ {xs : List V} {us : List Value} (i : Nat), Vals xs us → Vals (xs.set i x) (us.set i u)
  | _, _, _, .nil => .nil
  | _, _, 0, .cons _ t => .cons r t
  | _, _, i + 1, .cons q t => .cons q (Vals.set r i t)
theorem Vals.append : ∀ {xs ys : List V} {us ws : List Value}, Vals xs us → Vals ys ws → Vals (xs ++ ys) (us ++ ws)
  | _, _, _, _, .nil, s => s
  | _, _, _, _, .cons r t, s => .cons r (Vals.append t s)
theorem Vals.take : ∀ {xs : List V} {us : List Value} (n : Nat), Vals xs us → Vals (xs.take n) (us.take n)
  | _, _, 0, _ => .nil
  | _, _, _ + 1, .nil => .nil
  | _, _, n + 1, .cons r t => .cons r (Vals.take n t)
theorem Vals.drop : ∀ {xs : List V} {us : List Value} (n : Nat), Vals xs us → Vals (xs.drop n) (us.drop n)
  | _, _, 0, r => r
  | _, _, _ + 1, .nil => .nil
  | _, _, n + 1, .cons _ t => Vals.drop n t
theorem Vals.none_of : ∀ {xs : List V} {us : List Value} {i : Nat}, Vals xs us → xs[i]? = none → us[i]? = none := fun {xs us i} r e => by
  have h1 := r.length
  have h2 : xs.length ≤ i := List.getElem?_eq_none_iff.mp e
  exact List.getElem?_eq_none_iff.mpr (by omega)

noncomputable def RelO : Option V → Option Value → Prop
  | some v, some u => RelV v u
  | none, none => True
  | _, _ => False
noncomputable def KV {κ : Type} : List (κ × V) → List (κ × Value) → Prop := Paired fun (p : κ × V) (q : κ × Value) => p.1 = q.1 ∧ RelV p.2 q.2

noncomputable def kV : Key → V
  | .inl i => .int i
  | .inr x => .str x

inductive HO where
  | lst (xs : List V)
  | tup (xs : List V)
  | dK (kvs : List (Key × V)) | dT (kvs : List (List Key × V))
  | set (S : Int → Bool) (n : Nat)
  | ins (C dx : Addr) (fs : List (Str × V))
  | own (x : Addr)
  | xd (fs : List (Str × V))
  | met (f x : Addr)
  | rng (lo hi : Int)
  | frz (o : Obj) (u : HO)
  | tbl (ps : Array Value)
  | ext (φ : Heap → Prop)

noncomputable abbrev Hp := Addr → Option HO
noncomputable def upd (H : Hp) (a : Addr) (o : HO) : Hp := fun b => if b = a then some o else H b
theorem upd_same {H : Hp} {a : Addr} {o : HO} : upd H a o a = some o := by unfold upd; rw [if_pos rfl]
theorem upd_ne {H : Hp} {a b : Addr} {o : HO} (h : b ≠ a) : upd H a o b = H b := by unfold upd; rw [if_neg h]
theorem ne_of_none {H : Hp} {a b : Addr} {o : HO} (h : H a = some o) (h' : H b = none) : a ≠ b := by
  intro e; subst e; rw [h] at h'; cases h'

section
variable (P : Program) (w : World)
noncomputable def ObjOk (H : Hp) (h : Heap) (a : Addr) : HO → Prop
  | .lst xs => xs.length ≤ sizeLine ∧ ∃ (its : List Value) (n : Nat), Vals xs its ∧ h.get? a = some { cls := .type "list", data := .seq its.toArray n }
  | .tup xs => xs.length ≤ sizeLine ∧ ∃ its : List Value, Vals xs its ∧ IsTup h a its.toArray
  | .dK kvs => kvs.length ≤ sizeLine ∧ (a == sysModules) = false ∧ ∃ vs, KV kvs vs ∧ h.DictOf (mixKind P w) a vs
  | .dT kvs => kvs.length ≤ sizeLine ∧ (a == sysModules) = false ∧ ∃ xs : List (List Key × Addr × Value),
      Paired (fun (p : List Key × V) (q : List Key × Addr × Value) => p.1 = q.1 ∧ H q.2.1 = some (.tup (p.1.map kV)) ∧ RelV p.2 q.2.2) kvs xs ∧
      ∃ o es ep, h.get? a = some o ∧ o.ExactDict ∧ o.data = .dict es ep ∧ es.toList = xs.map (entryOfKey (tupleKind (mixKind P w))) ∧ (xs.map (·.1)).Nodup
  | .set S n => h.SetOf (intKind P w) a S n
  | .ins C dx fs => H dx = some (.own a) ∧ fs.length ≤ 1000 ∧ dx ≠ a ∧ h.get? a = some (PySem.W.instObj C dx) ∧
      ∃ mA, h.Ns1 dx mA ∧ (∀ f, RelO (fs.lookup f) (mA f)) ∧ PySem.Within mA (fs.map (·.1))
  | .own _ => ∃ o, h.get? a = some o
  | .xd fs => ∃ mA, h.Ns1 a mA ∧ ∀ f, RelO (fs.lookup f) (mA f)
  | .rng lo hi => ∃ t u v, h.get? a = some { cls := .type "range", data := .fields #[.int lo t, .int hi u, .int 1 v] }
  | .frz o u => h.get? a = some o ∧ ObjOk H h a u
  | .tbl ps => h.get? a = some { cls := .none, data := .fields ps }
  | .met f x => h.get? a = some (PySem.W.methodObj (.ref f) (.ref x))
  | .ext φ => φ h ∧ (∃ o, h.get? a = some o) ∧ ∀ h1 h2 : Heap, φ h1 → (∀ o, h1.get? a = some o → h2.get? a = some o) → φ h2
noncomputable def HOk (H : Hp) (h : Heap) : Prop := ∀ a o, H a = some o → ObjOk P w H h a o
end

section
variable {P : Program} {w : World} {H H' : Hp} {h h' : Heap} {a : Addr} {o : HO}
theorem ObjOk.lt (x : ObjOk P w H h a o) : a < h.objs.size := by
  cases o with
  | lst xs => obtain ⟨_, _, _, _, e⟩ := x; exact Heap.lt_size e
  | tup xs => obtain ⟨_, _, _, p⟩ := x; exact p.lt
  | dK kvs => obtain ⟨_, _, _, _, o, _, _, e, _⟩ := x; exact Heap.lt_size e
  | dT kvs => obtain ⟨_, _, _, _, o, _, _, e, _⟩ := x; exact Heap.lt_size e
  | set S n => obtain ⟨o, _, _, _, e, _⟩ := x; exact Heap.lt_size e
  | ins C dx fs => obtain ⟨_, _, _, e, _⟩ := x; exact Heap.lt_size e
  | own y => obtain ⟨_, e⟩ := x; exact Heap.lt_size e
  | xd fs => obtain ⟨_, ⟨_, _, _, e, _⟩, _⟩ := x; exact Heap.lt_size e
  | rng lo hi => obtain ⟨_, _, _, e⟩ := x; exact Heap.lt_size e
  | frz ob u => obtain ⟨e, _⟩ := x; exact Heap.lt_size e
  | tbl ps => exact Heap.lt_size (show h.get? a = some _ from x)
  | met f y => exact Heap.lt_size (show h.get? a = some _ from x)
  | ext φ => obtain ⟨_, ⟨_, e⟩, _⟩ := x; exact Heap.lt_size e
theorem Paired.mapP {α β : Type} {F G : α → β → Prop} : ∀ {l₁ : List α} {l₂ : List β}, Paired F l₁ l₂ → (∀ a b, F a b → G a b) → Paired G l₁ l₂
  | _, _, .nil, _ => .nil
  | _, _, .cons r t, f => .cons (f _ _ r) (Paired.mapP t f)
theorem ObjOk.stay (x : ObjOk P w H h a o) (k : ∀ b u, (b = a ∨ H b = some (.own a)) → h.get? b = some u → h'.get? b = some u)
    (ho : ∀ b, H b = some (.own a) → H' b = some (.own a)) (ht : ∀ b xs, H b = some (.tup xs) → H' b = some (.tup xs)) : ObjOk P w H' h' a o := by
  induction o with
  | lst xs => obtain ⟨z, its, n, r, e⟩ := x; exact ⟨z, its, n, r, k _ _ (.inl rfl) e⟩
  | tup xs => obtain ⟨z, its, r, ob, e, c⟩ := x; exact ⟨z, its, r, ob, k _ _ (.inl rfl) e, c⟩
  | dK kvs => obtain ⟨z, y, vs, r, ob, es, ep, e, c⟩ := x; exact ⟨z, y, vs, r, ob, es, ep, k _ _ (.inl rfl) e, c⟩
  | dT kvs =>
    obtain ⟨z, y, xs, r, ob, es, ep, e, c⟩ := x
    exact ⟨z, y, xs, Paired.mapP r fun p q z => ⟨z.1, ht _ _ z.2.1, z.2.2⟩, ob, es, ep, k _ _ (.inl rfl) e, c⟩
  | set S n => obtain ⟨ob, es, ep, t, e, c⟩ := x; exact ⟨ob, es, ep, t, k _ _ (.inl rfl) e, c⟩
  | ins C dx fs =>
    obtain ⟨d, z, ne, e, mA, ⟨od, es, ep, e2, c⟩, r⟩ := x
    exact ⟨ho _ d, z, ne, k _ _ (.inl rfl) e, mA, ⟨od, es, ep, k _ _ (.inr d) e2, c⟩, r⟩
  | own y => obtain ⟨ob, e⟩ := x; exact ⟨ob, k _ _ (.inl rfl) e⟩
  | xd fs => obtain ⟨mA, ⟨od, es, ep, e, c⟩, r⟩ := x; exact ⟨mA, ⟨od, es, ep, k _ _ (.inl rfl) e, c⟩, r⟩
  | rng lo hi => obtain ⟨t, u, v, e⟩ := x; exact ⟨t, u, v, k _ _ (.inl rfl) e⟩
  | frz ob u ih => obtain ⟨e, q⟩ := x; exact ⟨k _ _ (.inl rfl) e, ih q⟩
  | tbl ps =>
    have e : h.get? a = some { cls := .none, data := .fields ps } := x
    show h'.get? a = some { cls := .none, data := .fields ps }
    exact k a _ (.inl rfl) e
  | met f y =>
    have e : h.get? a = some (PySem.W.methodObj (.ref f) (.ref y)) := x
    show h'.get? a = some (PySem.W.methodObj (.ref f) (.ref y))
    exact k a _ (.inl rfl) e
  | ext φ => obtain ⟨p, ⟨o, e⟩, st⟩ := x; exact ⟨st _ _ p fun o q => k _ _ (.inl rfl) q, ⟨o, k _ _ (.inl rfl) e⟩, st⟩
theorem HOk.lt (x : HOk P w H h) (e : H a = some o) : a < h.objs.size := (x a o e).lt
theorem HOk.fresh (x : HOk P w H h) (e : h.objs.size ≤ a) : H a = none := by
  cases q : H a with
  | none => rfl
  | some u => exact absurd (Nat.lt_of_lt_of_le (x.lt q) e) (Nat.lt_irrefl _)
theorem HOk.kept (x : HOk P w H h) (k : ∀ b u, h.get? b = some u → h'.get? b = some u) : HOk P w H h' := fun a o e =>
  (x a o e).stay (fun b u _ q => k b u q) (fun _ q => q) fun _ _ q => q
theorem HOk.laid (x : HOk P w H h) (k : ∀ b u, h.get? b = some u → h'.get? b = some u) (hp : h.objs.size ≤ a) (new : ObjOk P w (upd H a o) h' a o) : HOk P w (upd H a o) h' := fun b u e => by
  have hn := x.fresh hp
  by_cases hb : b = a
  · subst hb; rw [upd_same] at e; cases e; exact new
  · rw [upd_ne hb] at e
    exact (x b u e).stay (fun c v _ q => k c v q) (fun c q => by rw [upd_ne (ne_of_none q hn)]; exact q) fun c xs q => by rw [upd_ne (ne_of_none q hn)]; exact q
end

noncomputable def Rd (H : Hp) (a : Addr) (u : HO) : Prop := H a = some u ∨ ∃ o, H a = some (.frz o u)
theorem Rd.of {H : Hp} {a : Addr} {u : HO} (h : H a = some u) : Rd H a u := .inl h
theorem Rd.ok {P : Program} {w : World} {H : Hp} {h : Heap} {a : Addr} {u : HO} (r : Rd H a u) (x : HOk P w H h) : ObjOk P w H h a u := by
  rcases r with r | ⟨o, r⟩
  · exact x a u r
  · obtain ⟨_, q⟩ := x a _ r
    exact q
noncomputable def Mut : Option HO → Prop
  | some (.lst _) => True
  | some (.dK _) => True
  | some (.dT _) => True
  | some (.set _ _) => True
  | some (.ins _ _ _) => True
  | some (.ext _) => True
  | _ => False
section
variable {P : Program} {w : World} {H : Hp} {h h' : Heap} {x e : Addr} {o' : HO}
theorem HOk.write (ok : HOk P w H h) (mu : Mut (H x)) (he : e = x ∨ H e = some (.own x)) (k : ∀ b u, b ≠ e → h.get? b = some u → h'.get? b = some u) (heo : ∃ u, h'.get? e = some u)
    (new : ObjOk P w (upd H x o') h' x o') : HOk P w (upd H x o') h' := fun b u q => by
  have nown : ∀ c y, H c = some (.own y) → c ≠ x := fun c y r z => by subst z; rw [r] at mu; exact mu
  have ntup : ∀ c xs, H c = some (.tup xs) → c ≠ x := fun c xs r z => by subst z; rw [r] at mu; exact mu
  by_cases hb : b = x
  · subst hb; rw [upd_same] at q; cases q; exact new
  · rw [upd_ne hb] at q
    by_cases hbe : b = e
    · have q' : H b = some (.own x) := by
        rcases he with z | z
        · exact absurd (hbe.trans z) hb
        · rw [hbe]; exact z
      rw [q] at q'; cases q'
      obtain ⟨v, hv⟩ := heo
      exact ⟨v, by rw [hbe]; exact hv⟩
    · refine (ok b u q).stay (fun c v hc r => k c v ?_ r) (fun c r => by rw [upd_ne (nown c b r)]; exact r) fun c xs r => by rw [upd_ne (ntup c xs r)]; exact r
      rcases hc with rfl | hc
      · exact hbe
      · rintro rfl
        rcases he with z | z
        · exact nown c b hc z
        · rw [hc] at z; cases z; exact hb rfl
end

structure Un (fs ex : List Addr) (H H' : Hp) (h h' : Heap) : Prop where
  keep : ∀ b o, h.get? b = some o → H b = none → b ∉ fs → b ∉ ex → h'.get? b = some o
  slot : ∀ b o, h.get? b = some o → H b = none → b ∈ fs → b ∉ ex → ∃ sl, h'.get? b = some { o with slots := sl }
  free : ∀ b o, h.get? b = some o → H b = none → b ∉ ex → H' b = none
  there : ∀ b o, h.get? b = some o → b ∉ ex → ∃ o', h'.get? b = some o'
  tups : ∀ b xs, H b = some (.tup xs) → H' b = some (.tup xs)
  frzs : ∀ b o u, H b = some (.frz o u) → H' b = some (.frz o u)
  tbls : ∀ b ps, H b = some (.tbl ps) → ∃ more, H' b = some (.tbl (ps ++ more))
section
variable {fs fs' ex ex' : List Addr} {H H1 H2 : Hp} {h h1 h2 h' : Heap} {a x e : Addr} {o : HO}
theorem Un.any (u : Un fs ex H H1 h h1) {b : Addr} {ob : Obj} (q : h.get? b = some ob) (n : H b = none) (hx : b ∉ ex) : ∃ sl, h1.get? b = some { ob with slots := sl } := by
  by_cases hb : b ∈ fs
  · exact u.slot b ob q n hb hx
  · exact ⟨ob.slots, u.keep b ob q n hb hx⟩
theorem Un.trans (a : Un fs ex H H1 h h1) (b : Un fs ex H1 H2 h1 h2) : Un fs ex H H2 h h2 where
  keep := fun c ob q n hc hx => b.keep c ob (a.keep c ob q n hc hx) (a.free c ob q n hx) hc hx
  slot := fun c ob q n hc hx => by
    obtain ⟨sl, e1⟩ := a.slot c ob q n hc hx
    obtain ⟨sl', e2⟩ := b.slot c _ e1 (a.free c ob q n hx) hc hx
    exact ⟨sl', e2⟩
  free := fun c ob q n hx => by
    obtain ⟨o', e1⟩ := a.there c ob q hx
    exact b.free c o' e1 (a.free c ob q n hx) hx
  there := fun c ob q hx => by
    obtain ⟨o', e1⟩ := a.there c ob q hx
    exact b.there c o' e1 hx
  tups := fun c xs q => b.tups c xs (a.tups c xs q)
  frzs := fun c ob xs q => b.frzs c ob xs (a.frzs c ob xs q)
  tbls := fun c ps q => by
    obtain ⟨m1, e1⟩ := a.tbls c ps q
    obtain ⟨m2, e2⟩ := b.tbls c _ e1
    exact ⟨m1 ++ m2, by rw [e2, Array.append_assoc]⟩
theorem Un.kept (k : ∀ b u, h.get? b = some u → h'.get? b = some u) : Un fs ex H H h h' :=
  ⟨fun b ob q _ _ _ => k b ob q, fun b ob q _ _ _ => ⟨ob.slots, k b ob q⟩, fun _ _ _ n _ => n, fun b ob q _ => ⟨ob, k b ob q⟩, fun _ _ q => q, fun _ _ _ q => q, fun _ ps q => ⟨#[], by rw [q]; simp⟩⟩
theorem Un.refl : Un fs ex H H h h := Un.kept fun _ _ q => q
theorem Un.laid (k : ∀ b u, h.get? b = some u → h'.get? b = some u) (hp : h.objs.size ≤ a) (hn : H a = none) : Un fs ex H (upd H a o) h h' where
  keep := fun b u q _ _ _ => k b u q
  slot := fun b u q _ _ _ => ⟨u.slots, k b u q⟩
  free := fun b u q n _ => by rw [upd_ne (Nat.ne_of_lt (Nat.lt_of_lt_of_le (Heap.lt_size q) hp))]; exact n
  there := fun b u q _ => ⟨u, k b u q⟩
  tups := fun b xs q => by rw [upd_ne (ne_of_none q hn)]; exact q
  frzs := fun b u xs q => by rw [upd_ne (ne_of_none q hn)]; exact q
  tbls := fun b ps q => ⟨#[], by rw [upd_ne (ne_of_none q hn), q]; simp⟩
theorem Un.write (mu : Mut (H x)) (he : e = x ∨ H e = some (.own x)) (k : ∀ b u, b ≠ e → h.get? b = some u → h'.get? b = some u) (heo : ∃ u, h'.get? e = some u) : Un fs ex H (upd H x o) h h' := by
  have hx : ∀ b, H b = none → b ≠ x := fun b n z => by subst z; rw [n] at mu; exact mu
  have hb : ∀ b, H b = none → b ≠ e := fun b n z => by
    subst z
    rcases he with r | r
    · exact hx b n r
    · rw [n] at r; cases r
  have hm : ∀ b u, H b = some u → ¬ Mut (some u) → b ≠ x := fun b u q nm z => by subst z; rw [q] at mu; exact nm mu
  refine ⟨fun b u q n _ _ => k b u (hb b n) q, fun b u q n _ _ => ⟨u.slots, k b u (hb b n) q⟩, fun b u q n _ => by rw [upd_ne (hx b n)]; exact n, fun b u q _ => ?_,
    fun b xs q => by rw [upd_ne (hm b _ q fun z => z)]; exact q, fun b u xs q => by rw [upd_ne (hm b _ q fun z => z)]; exact q, fun b ps q => ⟨#[], by rw [upd_ne (hm b _ q fun z => z), q]; simp⟩⟩
  by_cases hbe : b = e
  · subst hbe; exact heo
  · exact ⟨u, k b u hbe q⟩
theorem Un.mono (u : Un fs ex H H1 h h1) (hs : ∀ b ∈ fs, b ∈ fs') (hx : ∀ b ∈ ex, b ∈ ex') : Un fs' ex' H H1 h h1 :=
  ⟨fun b ob q n hb he => u.keep b ob q n (fun z => hb (hs b z)) fun z => he (hx b z), fun _ _ q n _ he => u.any q n fun z => he (hx _ z), fun b ob q n he => u.free b ob q n fun z => he (hx b z), fun b ob q he => u.there b ob q fun z => he (hx b z), u.tups, u.frzs, u.tbls⟩
end

noncomputable def trk (h : Heap) (H : Hp) : List Addr := (List.range h.objs.size).filter fun a => (H a).isSome
noncomputable def hidT (h : Heap) (H : Hp) : Heap := PySem.W.hideAll h (trk h H)
theorem hidT_size (h : Heap) (H : Hp) : (hidT h H).objs.size = h.objs.size := PySem.W.hideAll_size _ _
theorem hidT_get {h : Heap} {H : Hp} {b : Addr} {o : Obj} (e : h.get? b = some o) (n : H b = none) : (hidT h H).get? b = some o :=
  PySem.W.hideAll_get _ e fun hm => by
    have q : (H b).isSome = true := (List.mem_filter.mp hm).2
    rw [n] at q; simp at q
theorem of_hidT {h : Heap} {H : Hp} {b : Addr} {o : Obj} (e : (hidT h H).get? b = some o) : h.get? b = some o ∧ H b = none := by
  have e' : h.get? b = some o := PySem.W.of_hideAll (trk h H) e
  refine ⟨e', ?_⟩
  cases q : H b with
  | none => rfl
  | some x =>
    have hm : b ∈ trk h H := List.mem_filter.mpr ⟨List.mem_range.mpr (Heap.lt_size e'), by simp [q]⟩
    have z : (hidT h H).get? b = none := PySem.W.hideAll_none (trk h H) hm
    rw [z] at e; cases e

noncomputable def allNews (g h : Heap) (L : Addr) : List (Addr × Obj) := (List.range h.objs.size).filterMap fun a => if a = L ∨ (g.get? a).isSome = true then none else (h.get? a).map fun o => (a, o)
noncomputable def rest (g h : Heap) (L d : Addr) : List (Addr × Obj) := (allNews g h L).filter fun p => decide (p.1 ≠ d)
end L2

namespace L2
open PySem PySem.Spec PyProof.Rows

structure Mod (K : PySem.W.Frag) (mg : Str → Option Value) (base : Heap) : Prop where
  kin : K.In base
  glob : base.Ns mainGlobals mg
  blt : ∃ mb, base.Ns builtinsNs mb ∧ ∀ x : Str, x ≠ "__name__" → mb x = bootBuiltins x
  nolimit : base.NoLimit

structure Cx where
  prog : Program
  w : World
  K : PySem.W.Frag
  mg : Str → Option Value
  base : Heap
  A : Around
  N : List Str
  s₀ : Shared
  H₀ : Hp
  env : Env
  outer : List Env
  stack : List Env
  ex : List Addr
  fn : Str → Bool
  calm : Bool
  pn : List (Addr × Obj)
  xe : Value → Shared → Prop
noncomputable def frs (l : List Env) : List Addr := l.filterMap (·.frame)
noncomputable abbrev Cx.fs (X : Cx) : List Addr := frs X.outer

noncomputable def Vis (sc : Scope) (x : Str) : Prop := sc.names.lookup x = some .local ∨ sc.names.lookup x = some .cell ∨ sc.names.lookup x = some .free
noncomputable def Loc (sc : Scope) (x : Str) : Prop := sc.names.lookup x = some .local ∨ sc.names.lookup x = some .cell
noncomputable def Look (env : Env) (h : Heap) (m : Str → Option Value) (x : Str) (u : Value) : Prop :=
  (env.kindOf x = some .local ∧ m x = some u) ∨ ((env.kindOf x = some .cell ∨ env.kindOf x = some .free) ∧ ∃ c, env.cells.lookup x = some c ∧ h.IsCell c (some u))

structure Cx.Ok (X : Cx) : Prop where
  mod : Mod X.K X.mg X.base
  kind : X.env.scope.kind = .function
  glob : X.env.globals = mainGlobals
  blt : X.env.builtins = builtinsNs
  above : X.s₀.heap.objs.size ≤ X.env.locals
  inj : ∀ x y c, X.env.cells.lookup x = some c → X.env.cells.lookup y = some c → x = y
  has : ∀ x, (X.env.kindOf x = some .cell ∨ X.env.kindOf x = some .free) → ∃ c, X.env.cells.lookup x = some c
  cab : ∀ x c, X.fn x = true → X.env.cells.lookup x = some c → X.s₀.heap.objs.size ≤ c
  hd : X.calm = true → X.A.handled = none
  frames : X.A.frames = some X.stack
  stk : X.stack = X.outer ∨ (X.stack = X.env :: X.outer ∧ X.env.frame = some X.env.locals)
  exf : ∀ b ∈ X.ex, b ≠ X.env.locals ∧ ∀ x c, X.env.cells.lookup x = some c → c ≠ b
  bs : ∀ b o, X.base.get? b = some o → X.s₀.heap.get? b = some o ∧ X.H₀ b = none
  bsz : X.base.objs.size ≤ X.s₀.heap.objs.size
  noex : ∀ b o, X.base.get? b = some o → b ∉ X.ex
  exfs : ∀ b ∈ X.ex, b ∉ X.fs
  funs : X.s₀.heap.FunFrames X.base X.outer
  frf : ∀ b ∈ X.fs, X.H₀ b = none

structure Inv (X : Cx) (pins : List (Addr × Obj)) (σ : List (Option V)) (H : Hp) (s : Shared) : Prop where
  ok : X.Ok
  os : s.os = X.s₀.os
  bare : AllBare s.gens
  base : Un X.fs X.ex X.H₀ H X.s₀.heap s.heap
  loc : ∃ m, s.heap.Ns X.env.locals m ∧ ∀ (i : Nat) (x : Str) (v : V), X.N[i]? = some x → σ[i]? = some (some v) → Vis X.env.scope x → ∃ u, RelV v u ∧ Look X.env s.heap m x u
  cell : ∀ x c, X.env.cells.lookup x = some c → ∃ v, s.heap.IsCell c v
  free : H X.env.locals = none
  freeC : ∀ x c, X.env.cells.lookup x = some c → H c = none
  pin : ∀ p ∈ X.pn ++ pins, s.heap.get? p.1 = some p.2 ∧ H p.1 = none ∧ p.1 ≠ X.env.locals ∧ p.1 ∉ X.fs ∧ ∀ v, p.2.data ≠ .cell v
  hok : HOk X.prog X.w H s.heap
  len : σ.length = X.N.length

section
variable {X : Cx} {pins : List (Addr × Obj)} {σ : List (Option V)} {H H' : Hp} {s : Shared} {h' : Heap}

theorem Cx.Ok.nofr (ok : X.Ok) {b : Addr} {o : Obj} (e : X.base.get? b = some o) : b ∉ X.fs := fun hb => by
  have := (ok.funs.mem hb).1
  rw [e] at this; cases this
theorem Inv.bs (I : Inv X pins σ H s) : ∀ b o, X.base.get? b = some o → s.heap.get? b = some o ∧ H b = none := fun b o e =>
  ⟨I.base.keep b o (I.ok.bs b o e).1 (I.ok.bs b o e).2 (I.ok.nofr e) (I.ok.noex b o e), I.base.free b o (I.ok.bs b o e).1 (I.ok.bs b o e).2 (I.ok.noex b o e)⟩
theorem Inv.bk (I : Inv X pins σ H s) : ∀ b o, X.base.get? b = some o → s.heap.get? b = some o := fun b o e => (I.bs b o e).1
theorem Inv.mod (I : Inv X pins σ H s) : Mod X.K X.mg X.base := I.ok.mod
theorem Inv.kIn (I : Inv X pins σ H s) : X.K.In s.heap := I.ok.mod.kin.keeps I.bk
theorem Inv.nolimit (I : Inv X pins σ H s) : s.heap.NoLimit := I.ok.mod.nolimit.keeps I.bk
theorem Inv.fr (I : Inv X pins σ H s) : ∃ m, Fr X.base X.env.locals s.heap m :=
  let ⟨m, hn, _⟩ := I.loc
  ⟨m, hn, I.bk, Nat.le_trans I.ok.bsz I.ok.above⟩
theorem Inv.lt (I : Inv X pins σ H s) : X.env.locals < s.heap.objs.size := let ⟨_, hn, _⟩ := I.loc; hn.lt
theorem Inv.sz (I : Inv X pins σ H s) : X.s₀.heap.objs.size ≤ s.heap.objs.size := Nat.le_trans I.ok.above (Nat.le_of_lt I.lt)
theorem Inv.nofs (I : Inv X pins σ H s) {a : Addr} (h : s.heap.objs.size ≤ a) : a ∉ X.fs := fun hb => by
  obtain ⟨_, o, ho, _⟩ := I.ok.funs.mem hb
  exact absurd (Nat.lt_of_lt_of_le (Heap.lt_size ho) (Nat.le_trans I.sz h)) (Nat.lt_irrefl _)
theorem Inv.cne (I : Inv X pins σ H s) : ∀ x c, X.env.cells.lookup x = some c → c ≠ X.env.locals := fun x c e z => by
  obtain ⟨v, o, ho, hd⟩ := I.cell x c e
  obtain ⟨m, ⟨o', es, ep, ho', hd', _⟩, _⟩ := I.loc
  rw [z, ho'] at ho; cases ho; rw [hd'] at hd; cases hd
theorem Inv.funs (I : Inv X pins σ H s) : s.heap.FunFrames X.base X.outer := by
  have all : ∀ (l : List Env), (∀ b ∈ frs l, b ∈ X.fs) → X.s₀.heap.FunFrames X.base l → s.heap.FunFrames X.base l := by
    intro l
    induction l with
    | nil => intro _ _; trivial
    | cons env r ih =>
      intro hs hl
      obtain ⟨hk, ⟨L, o, hf, hn, ho, hd⟩, hr⟩ := hl
      have hL : L ∈ X.fs := hs L (by unfold frs; rw [List.filterMap_cons, hf]; exact List.mem_cons_self)
      obtain ⟨sl, e⟩ := I.base.slot L o ho (I.ok.frf L hL) hL fun z => I.ok.exfs L z hL
      exact ⟨hk, ⟨L, _, hf, hn, e, hd⟩, ih (fun b hb => hs b (by unfold frs; rw [List.filterMap_cons, hf]; exact List.mem_cons_of_mem _ hb)) hr⟩
  exact all X.outer (fun _ hb => hb) I.ok.funs

theorem Inv.stack (I : Inv X pins σ H s) : s.heap.FunFrames X.base X.stack := by
  rcases I.ok.stk with e | ⟨e, hf⟩
  · rw [e]; exact I.funs
  · rw [e]
    obtain ⟨m, hn, _⟩ := I.loc
    refine .cons (by rw [I.ok.kind]; decide) hf hn ?_ I.funs
    exact Heap.get?_none_of_le (Nat.le_trans I.ok.bsz I.ok.above)
theorem Inv.stkSub (I : Inv X pins σ H s) : ∀ b ∈ frs X.stack, b ∈ X.env.locals :: X.fs := fun b hb => by
  rcases I.ok.stk with e | ⟨e, hf⟩
  · rw [e] at hb; exact List.mem_cons_of_mem _ hb
  · rw [e] at hb
    unfold frs at hb
    rw [List.filterMap_cons, hf] at hb
    exact hb
theorem Inv.stkFree (I : Inv X pins σ H s) : ∀ b ∈ frs X.stack, H b = none := fun b hb => by
  rcases List.mem_cons.mp (I.stkSub b hb) with e | hb
  · rw [e]; exact I.free
  · obtain ⟨_, o, ho, _⟩ := I.ok.funs.mem hb
    exact I.base.free b o ho (I.ok.frf b hb) fun z => I.ok.exfs b z hb

theorem Inv.step {g' : Array GenState} {t' : Nat} {d' : Drawn} {ch : List Addr} (I : Inv X pins σ H s)
    (hch : ∀ b ∈ ch, (b ∈ X.ex ∨ X.s₀.heap.objs.size ≤ b) ∧ b ≠ X.env.locals ∧ (∀ x c, X.env.cells.lookup x = some c → c ≠ b) ∧ ∀ p ∈ X.pn ++ pins, p.1 ≠ b)
    (keep : ∀ b o, b ≠ X.env.locals → b ∉ X.fs → b ∉ ch → s.heap.get? b = some o → H b = none → h'.get? b = some o)
    (slot : ∀ b o, b ≠ X.env.locals → b ∈ X.fs → b ∉ ch → s.heap.get? b = some o → H b = none → ∃ sl, h'.get? b = some { o with slots := sl }) (free : ∀ b o, b ∉ ch → s.heap.get? b = some o → H b = none → H' b = none)
    (there : ∀ b o, b ∉ ch → s.heap.get? b = some o → ∃ o', h'.get? b = some o')
    (tups : ∀ b xs, H b = some (.tup xs) → H' b = some (.tup xs)) (frzs : ∀ b o u, H b = some (.frz o u) → H' b = some (.frz o u)) (tbls : ∀ b ps, H b = some (.tbl ps) → ∃ more, H' b = some (.tbl (ps ++ more)))
    (ns : ∀ m, s.heap.Ns X.env.locals m → h'.Ns X.env.locals m) (hok : HOk X.prog X.w H' h') (hg : AllBare g') :
    Inv X pins σ H' { s with heap := h', gens := g', drawn := d', toks := t' } := by
  have neL : ∀ b o, X.s₀.heap.get? b = some o → b ≠ X.env.locals := fun b o e => Nat.ne_of_lt (Nat.lt_of_lt_of_le (Heap.lt_size e) I.ok.above)
  have neC : ∀ b o, X.s₀.heap.get? b = some o → b ∉ X.ex → b ∉ ch := fun b o e hx hb => by
    rcases (hch b hb).1 with z | z
    · exact hx z
    · exact absurd (Nat.lt_of_lt_of_le (Heap.lt_size e) z) (Nat.lt_irrefl _)
  have cellK : ∀ x c, X.env.cells.lookup x = some c → ∀ v, s.heap.IsCell c v → h'.IsCell c v := fun x c e v ⟨o, ho, hd⟩ => by
    have nch : c ∉ ch := fun z => (hch c z).2.2.1 x c e rfl
    by_cases hc : c ∈ X.fs
    · obtain ⟨sl, q⟩ := slot c o (I.cne x c e) hc nch ho (I.freeC x c e)
      exact ⟨_, q, hd⟩
    · exact ⟨o, keep c o (I.cne x c e) hc nch ho (I.freeC x c e), hd⟩
  refine ⟨I.ok, I.os, hg, ⟨fun b o e n hb hx => ?_, fun b o e n hb hx => ?_, fun b o e n hx => ?_, fun b o e hx => ?_, fun b xs e => tups b xs (I.base.tups b xs e), fun b o xs e => frzs b o xs (I.base.frzs b o xs e), fun b ps e => ?_⟩, ?_, fun x c e => ?_, ?_, fun x c e => ?_, fun p hp => ?_, hok, I.len⟩
  · exact keep b o (neL b o e) hb (neC b o e hx) (I.base.keep b o e n hb hx) (I.base.free b o e n hx)
  · obtain ⟨sl, e1⟩ := I.base.slot b o e n hb hx
    obtain ⟨sl', e2⟩ := slot b _ (neL b o e) hb (neC b o e hx) e1 (I.base.free b o e n hx)
    exact ⟨sl', e2⟩
  · obtain ⟨o', e1⟩ := I.base.there b o e hx
    exact free b o' (neC b o e hx) e1 (I.base.free b o e n hx)
  · obtain ⟨o', e1⟩ := I.base.there b o e hx
    exact there b o' (neC b o e hx) e1
  · obtain ⟨m1, e1⟩ := I.base.tbls b ps e
    obtain ⟨m2, e2⟩ := tbls b _ e1
    exact ⟨m1 ++ m2, by rw [e2, Array.append_assoc]⟩
  · obtain ⟨m, hn, hl⟩ := I.loc
    refine ⟨m, ns m hn, fun i x v e1 e2 e3 => ?_⟩
    obtain ⟨u, r, l⟩ := hl i x v e1 e2 e3
    refine ⟨u, r, ?_⟩
    rcases l with l | ⟨k, c, e, z⟩
    · exact .inl l
    · exact .inr ⟨k, c, e, cellK x c e _ z⟩
  · obtain ⟨v, z⟩ := I.cell x c e
    exact ⟨v, cellK x c e v z⟩
  · obtain ⟨m, ⟨o, _, _, ho, _⟩, _⟩ := I.loc
    exact free _ o (fun z => (hch _ z).2.1 rfl) ho I.free
  · obtain ⟨v, o, ho, hd⟩ := I.cell x c e
    exact free c o (fun z => (hch c z).2.2.1 x c e rfl) ho (I.freeC x c e)
  · obtain ⟨e, n, ne, nf, d⟩ := I.pin p hp
    have nch : p.1 ∉ ch := fun z => (hch p.1 z).2.2.2 p hp rfl
    exact ⟨keep p.1 p.2 ne nf nch e n, free p.1 p.2 nch e n, ne, nf, d⟩
theorem Inv.un {t' : Nat} (I : Inv X pins σ H s) (u : Un X.fs [] H H' s.heap h') (hok : HOk X.prog X.w H' h') : Inv X pins σ H' { s with heap := h', toks := t' } := by
  obtain ⟨m, ⟨o, es, ep, ho, r⟩, _⟩ := id I.loc
  obtain ⟨sl, hL⟩ := u.any ho I.free (by simp)
  exact I.step (g' := s.gens) (d' := s.drawn) (ch := []) (fun _ z => nomatch z) (fun b o _ hb _ e n => u.keep b o e n hb (by simp)) (fun b o _ hb _ e n => u.slot b o e n hb (by simp)) (fun b o _ e n => u.free b o e n (by simp)) (fun b o _ e => u.there b o e (by simp)) u.tups u.frzs u.tbls (fun m' hm => by
    obtain ⟨o', es', ep', ho', r'⟩ := hm
    rw [ho] at ho'; cases ho'
    exact ⟨_, es', ep', hL, r'⟩) hok I.bare
theorem Inv.call {g' : Array GenState} {t' : Nat} {d' : Drawn} {ch : List Addr} (I : Inv X pins σ H s) (u : Un (frs X.stack) ch H H' s.heap h') (hok : HOk X.prog X.w H' h') (hg : AllBare g')
    (hch : ∀ b ∈ ch, (b ∈ X.ex ∨ X.s₀.heap.objs.size ≤ b) ∧ b ≠ X.env.locals ∧ (∀ x c, X.env.cells.lookup x = some c → c ≠ b) ∧ ∀ p ∈ X.pn ++ pins, p.1 ≠ b) :
    Inv X pins σ H' { s with heap := h', gens := g', drawn := d', toks := t' } := by
  obtain ⟨m, ⟨o, es, ep, ho, r⟩, _⟩ := id I.loc
  obtain ⟨sl, hL⟩ := u.any ho I.free fun z => (hch _ z).2.1 rfl
  exact I.step (ch := ch) hch (fun b o hL hb hc e n => u.keep b o e n (fun z => (List.mem_cons.mp (I.stkSub b z)).elim hL hb) hc) (fun b o _ _ hc e n => u.any e n hc) (fun b o hc e n => u.free b o e n hc) (fun b o hc e => u.there b o e hc) u.tups u.frzs u.tbls (fun m' hm => by
    obtain ⟨o', es', ep', ho', r'⟩ := hm
    rw [ho] at ho'; cases ho'
    exact ⟨_, es', ep', hL, r'⟩) hok hg
theorem Inv.turned {t' : Nat} {it : Addr} (I : Inv X pins σ H s) (k : ∀ b o, b ≠ it → s.heap.get? b = some o → h'.get? b = some o) (hn : H it = none) (hL : it ≠ X.env.locals)
    (h1 : it ∈ X.ex ∨ X.s₀.heap.objs.size ≤ it) (h2 : ∀ x c, X.env.cells.lookup x = some c → c ≠ it) (h3 : ∀ p ∈ X.pn ++ pins, p.1 ≠ it) : Inv X pins σ H { s with heap := h', toks := t' } := by
  have nit : ∀ b u, H b = some u → b ≠ it := fun b u e z => by rw [z, hn] at e; cases e
  refine I.step (g' := s.gens) (d' := s.drawn) (ch := [it]) (fun b hb => ?_) (fun b o _ _ hc e _ => k b o (fun z => hc (by simp [z])) e) (fun b o _ _ hc e _ => ⟨o.slots, k b o (fun z => hc (by simp [z])) e⟩) (fun _ _ _ _ n => n)
    (fun b o hc e => ⟨o, k b o (fun z => hc (by simp [z])) e⟩) (fun _ _ e => e) (fun _ _ _ e => e) (fun b ps e => ⟨#[], by rw [e]; simp⟩) (fun m hm => ?_) (fun b u e => ?_) I.bare
  · have e : b = it := by simpa using hb
    subst e
    exact ⟨h1, hL, h2, h3⟩
  · obtain ⟨o, es, ep, ho, r⟩ := hm
    exact ⟨o, es, ep, k _ o (Ne.symm hL) ho, r⟩
  · refine (I.hok b u e).stay (fun c v hc q => k c v ?_ q) (fun _ q => q) fun _ _ q => q
    rcases hc with z | z
    · rw [z]; exact nit b u e
    · exact nit c _ z
theorem Inv.tok (I : Inv X pins σ H s) (t : Nat) : Inv X pins σ H { s with toks := t } := I.un (h' := s.heap) (t' := t) Un.refl I.hok
theorem Inv.kept {t' : Nat} (I : Inv X pins σ H s) (k : ∀ b u, s.heap.get? b = some u → h'.get? b = some u) : Inv X pins σ H { s with heap := h', toks := t' } := I.un (Un.kept k) (I.hok.kept k)
theorem Inv.laid {a : Addr} {o : HO} {t' : Nat} (I : Inv X pins σ H s) (k : ∀ b u, s.heap.get? b = some u → h'.get? b = some u) (hp : s.heap.objs.size ≤ a) (new : ObjOk X.prog X.w (upd H a o) h' a o) :
    Inv X pins σ (upd H a o) { s with heap := h', toks := t' } := I.un (Un.laid k hp (I.hok.fresh hp)) (I.hok.laid k hp new)
theorem Inv.write {x e : Addr} {o : HO} {t' : Nat} (I : Inv X pins σ H s) (mu : Mut (H x)) (he : e = x ∨ H e = some (.own x)) (k : ∀ b u, b ≠ e → s.heap.get? b = some u → h'.get? b = some u) (heo : ∃ u, h'.get? e = some u)
    (new : ObjOk X.prog X.w (upd H x o) h' x o) : Inv X pins σ (upd H x o) { s with heap := h', toks := t' } := I.un (Un.write mu he k heo) (I.hok.write mu he k heo new)
theorem Inv.pins_of {pins' : List (Addr × Obj)} (I : Inv X pins σ H s) (h : ∀ p ∈ pins', s.heap.get? p.1 = some p.2 ∧ H p.1 = none ∧ p.1 ≠ X.env.locals ∧ p.1 ∉ X.fs ∧ ∀ v, p.2.data ≠ .cell v) : Inv X pins' σ H s :=
  ⟨I.ok, I.os, I.bare, I.base, I.loc, I.cell, I.free, I.freeC, fun p hp => (List.mem_append.mp hp).elim (fun z => I.pin p (List.mem_append_left _ z)) (h p), I.hok, I.len⟩

theorem nodup_ix {N : List Str} (hN : N.Nodup) {i j : Nat} {x : Str} (a : N[i]? = some x) (b : N[j]? = some x) : i = j := by
  obtain ⟨h1, e1⟩ := List.getElem?_eq_some_iff.mp a
  obtain ⟨h2, e2⟩ := List.getElem?_eq_some_iff.mp b
  exact (List.getElem_inj hN).mp (e1.trans e2.symm)

theorem store_ok2 {M : Model} {A : Around} {E : Value → Shared → Prop} {i : Nat} {x : Str} {v : V} {u : Value} {Q : Unit → Shared → Prop} (I : Inv X pins σ H s) (hN : X.N.Nodup) (hi : X.N[i]? = some x) (hx : Loc X.env.scope x) (r : RelV v u)
    (h : ∀ s', Inv X pins (σ.set i (some v)) H s' → (∃ a, Heap.SameBut a s.heap s'.heap ∧ (a = X.env.locals ∨ X.env.cells.lookup x = some a)) → Q () s') (hf : X.fn x = true ∨ X.env.scope.names.lookup x = some .local := by first | exact .inl rfl | exact .inr rfl | assumption) : wpAny M A (storeName X.env x u) Q E s := by
  obtain ⟨m, hn, hl⟩ := id I.loc
  have hcls : (X.env.scope.kind == .class || (X.env.scope.kind == .module && X.env.locals != X.env.globals)) = false := by rw [I.ok.kind]; rfl
  have hiσ : i < σ.length := by rw [I.len]; exact (List.getElem?_eq_some_iff.mp hi).1
  have cne := I.cne
  have tracked : ∀ {a : Addr} {h' : Heap}, (∃ o, s.heap.get? a = some o ∧ H a = none) → Heap.SameBut a s.heap h' → HOk X.prog X.w H h' := fun {a h'} ha hs b ob e => by
    obtain ⟨_, _, hfree⟩ := ha
    refine (I.hok b ob e).stay (fun c w' hc q => (hs.2 c ?_).trans q) (fun _ q => q) fun _ _ q => q
    rintro rfl
    rcases hc with rfl | hc
    · rw [hfree] at e; cases e
    · rw [hfree] at hc; cases hc
  rcases hx with hk | hk
  · refine wpAny_storeName_local hk hn (fun h' hn' hs => ?_) hcls
    obtain ⟨oL, _, _, hoL, _⟩ := id hn
    refine h _ ⟨I.ok, I.os, I.bare, ⟨fun b o e n hb hx => ?_, fun b o e n hb hx => ?_, I.base.free, fun b o e hx => ?_, I.base.tups, I.base.frzs, I.base.tbls⟩, ⟨_, hn', fun j y v' e1 e2 e3 => ?_⟩, fun y c e => ?_, I.free, I.freeC, fun p hp => ?_, tracked ⟨oL, hoL, I.free⟩ hs, by simpa using I.len⟩ ⟨_, hs, .inl rfl⟩
    · exact (hs.2 b (Nat.ne_of_lt (Nat.lt_of_lt_of_le (Heap.lt_size e) I.ok.above))).trans (I.base.keep b o e n hb hx)
    · obtain ⟨sl, e1⟩ := I.base.slot b o e n hb hx
      exact ⟨sl, (hs.2 b (Nat.ne_of_lt (Nat.lt_of_lt_of_le (Heap.lt_size e) I.ok.above))).trans e1⟩
    · obtain ⟨o', e1⟩ := I.base.there b o e hx
      exact ⟨o', (hs.2 b (Nat.ne_of_lt (Nat.lt_of_lt_of_le (Heap.lt_size e) I.ok.above))).trans e1⟩
    · by_cases hj : j = i
      · subst hj
        rw [hi] at e1; cases e1
        rw [List.getElem?_set_self hiσ] at e2
        cases e2
        exact ⟨u, r, .inl ⟨hk, by simp⟩⟩
      · rw [List.getElem?_set_ne (Ne.symm hj)] at e2
        obtain ⟨u', r', q⟩ := hl j y v' e1 e2 e3
        refine ⟨u', r', ?_⟩
        rcases q with ⟨k, e⟩ | ⟨k, c, e, z⟩
        · refine .inl ⟨k, ?_⟩
          have : y ≠ x := fun e => hj (nodup_ix hN e1 (e ▸ hi))
          simp [this, e]
        · exact .inr ⟨k, c, e, z.sameBut hs (cne y c e)⟩
    · obtain ⟨w', z⟩ := I.cell y c e
      exact ⟨w', z.sameBut hs (cne y c e)⟩
    · obtain ⟨e, n, ne, nf, d⟩ := I.pin p hp
      exact ⟨(hs.2 p.1 ne).trans e, n, ne, nf, d⟩
  · have hfn : X.fn x = true := by
      rcases hf with z | z
      · exact z
      · rw [z] at hk; cases hk
    obtain ⟨c, hc⟩ := I.ok.has x (.inl hk)
    obtain ⟨w', z⟩ := I.cell x c hc
    refine wpAny_storeName_cell I.ok.kind hk hc z (fun h' hc' hs => ?_)
    obtain ⟨oc, hoc, hocd⟩ := id z
    refine h { s with heap := h' } ⟨I.ok, I.os, I.bare, ⟨fun b o e n hb hx => ?_, fun b o e n hb hx => ?_, I.base.free, fun b o e hx => ?_, I.base.tups, I.base.frzs, I.base.tbls⟩, ⟨m, hn.sameBut hs (Ne.symm (cne x c hc)), fun j y v' e1 e2 e3 => ?_⟩, fun y c' e => ?_, I.free, I.freeC, fun p hp => ?_, tracked ⟨oc, hoc, I.freeC x c hc⟩ hs, by simpa using I.len⟩ ⟨c, hs, .inr hc⟩
    · exact (hs.2 b (Nat.ne_of_lt (Nat.lt_of_lt_of_le (Heap.lt_size e) (I.ok.cab x c hfn hc)))).trans (I.base.keep b o e n hb hx)
    · obtain ⟨sl, e1⟩ := I.base.slot b o e n hb hx
      exact ⟨sl, (hs.2 b (Nat.ne_of_lt (Nat.lt_of_lt_of_le (Heap.lt_size e) (I.ok.cab x c hfn hc)))).trans e1⟩
    · obtain ⟨o', e1⟩ := I.base.there b o e hx
      exact ⟨o', (hs.2 b (Nat.ne_of_lt (Nat.lt_of_lt_of_le (Heap.lt_size e) (I.ok.cab x c hfn hc)))).trans e1⟩
    · by_cases hj : j = i
      · subst hj
        rw [hi] at e1; cases e1
        rw [List.getElem?_set_self hiσ] at e2
        cases e2
        exact ⟨u, r, .inr ⟨.inl hk, c, hc, hc'⟩⟩
      · rw [List.getElem?_set_ne (Ne.symm hj)] at e2
        obtain ⟨u', r', q⟩ := hl j y v' e1 e2 e3
        refine ⟨u', r', ?_⟩
        rcases q with q | ⟨k, c', e, z'⟩
        · exact .inl q
        · refine .inr ⟨k, c', e, z'.sameBut hs ?_⟩
          rintro rfl
          exact hj (nodup_ix hN e1 (I.ok.inj _ _ _ e hc ▸ hi))
    · by_cases hcc : c' = c
      · subst hcc; exact ⟨_, hc'⟩
      · obtain ⟨w2, z2⟩ := I.cell y c' e
        exact ⟨w2, z2.sameBut hs hcc⟩
    · obtain ⟨e, n, ne, nf, d⟩ := I.pin p hp
      refine ⟨(hs.2 p.1 ?_).trans e, n, ne, nf, d⟩
      intro q
      rw [q, hoc] at e
      have q' : oc = p.2 := Option.some.inj e
      exact d w' (by rw [← q']; exact hocd)
theorem store_ok {M : Model} {A : Around} {E : Value → Shared → Prop} {i : Nat} {x : Str} {v : V} {u : Value} {Q : Unit → Shared → Prop} (I : Inv X pins σ H s) (hN : X.N.Nodup) (hi : X.N[i]? = some x) (hx : Loc X.env.scope x) (r : RelV v u)
    (h : ∀ s', Inv X pins (σ.set i (some v)) H s' → Q () s') (hf : X.fn x = true ∨ X.env.scope.names.lookup x = some .local := by first | exact .inl rfl | exact .inr rfl | assumption) : wpAny M A (storeName X.env x u) Q E s :=
  store_ok2 I hN hi hx r (fun s' I' _ => h s' I') hf
theorem Inv.call' {s' : Shared} {ch : List Addr} (I : Inv X pins σ H s) (ho : s'.os = s.os) (u : Un (frs X.stack) ch H H' s.heap s'.heap) (hok : HOk X.prog X.w H' s'.heap) (hg : AllBare s'.gens)
    (hch : ∀ b ∈ ch, (b ∈ X.ex ∨ X.s₀.heap.objs.size ≤ b) ∧ b ≠ X.env.locals ∧ (∀ x c, X.env.cells.lookup x = some c → c ≠ b) ∧ ∀ p ∈ X.pn ++ pins, p.1 ≠ b) : Inv X pins σ H' s' := by
  obtain ⟨h', g', d', t', o'⟩ := s'
  have e : o' = s.os := ho
  subst e
  exact I.call (g' := g') (t' := t') (d' := d') u hok hg hch
end

noncomputable abbrev XK := Value → Option Addr → Hp → Prop
noncomputable abbrev St := List (Option V)
noncomputable abbrev VK := V → Hp → Prop
noncomputable abbrev TE := St → Hp → VK → Prop
noncomputable abbrev TT := St → Hp → (Bool → Hp → Prop) → Prop
noncomputable abbrev TA := St → Hp → (List V → Hp → Prop) → Prop
structure Ends where
  nx : St → Hp → Prop
  rt : VK
  bk : St → Hp → Prop := fun _ _ => False
  ct : St → Hp → Prop := fun _ _ => False
noncomputable abbrev TS := Ends → St → Hp → Prop

noncomputable def EP (X : Cx) (pins : List (Addr × Obj)) (σ : St) (Q : VK) (u : Value) (s' : Shared) : Prop := ∃ v H', Inv X pins σ H' s' ∧ RelV v u ∧ Q v H'
noncomputable def TP (X : Cx) (pins : List (Addr × Obj)) (σ : St) (Q : Bool → Hp → Prop) (b : Bool) (s' : Shared) : Prop := ∃ H', Inv X pins σ H' s' ∧ Q b H'
noncomputable def AP (X : Cx) (pins : List (Addr × Obj)) (σ : St) (Q : List V → Hp → Prop) (us : List Value) (s' : Shared) : Prop := ∃ vs H', Inv X pins σ H' s' ∧ Vals vs us ∧ Q vs H'
noncomputable def SP (X : Cx) (pins : List (Addr × Obj)) (D : Ends) (f : Flow) (s' : Shared) : Prop :=
  match f with
  | .next => ∃ σ' H', Inv X pins σ' H' s' ∧ D.nx σ' H'
  | .brk => ∃ σ' H', Inv X pins σ' H' s' ∧ D.bk σ' H'
  | .cont => ∃ σ' H', Inv X pins σ' H' s' ∧ D.ct σ' H'
  | .ret u => ∃ v σ' H', Inv X pins σ' H' s' ∧ RelV v u ∧ D.rt v H'

noncomputable def PE (X : Cx) (e : Expr) (t : TE) : Prop :=
  ∀ (pins : List (Addr × Obj)) (s : Shared) (σ : St) (H : Hp) (Q : VK), Inv X pins σ H s → t σ H Q → wpAny (model X.prog X.w) X.A (eval e X.env) (EP X pins σ Q) X.xe s
noncomputable def PT (X : Cx) (e : Expr) (t : TT) : Prop :=
  ∀ (pins : List (Addr × Obj)) (s : Shared) (σ : St) (H : Hp) (Q : Bool → Hp → Prop), Inv X pins σ H s → t σ H Q → wpAny (model X.prog X.w) X.A (isTrue e X.env (eval e X.env)) (TP X pins σ Q) X.xe s
noncomputable def PW (X : Cx) (e : Expr) (t : TT) : Prop :=
  ∀ (whole : Sem Value) (pins : List (Addr × Obj)) (s : Shared) (σ : St) (H : Hp) (Q : Bool → Hp → Prop), Inv X pins σ H s → t σ H Q → wpAny (model X.prog X.w) X.A (isTrue e X.env whole) (TP X pins σ Q) X.xe s
theorem PW.pt {X : Cx} {e : Expr} {t : TT} (h : PW X e t) : PT X e t := h _
noncomputable def PA (X : Cx) (es : List Expr) (t : TA) : Prop :=
  ∀ (pos : Pos) (pins : List (Addr × Obj)) (s : Shared) (σ : St) (H : Hp) (Q : List V → Hp → Prop), Inv X pins σ H s → t σ H Q → wpAny (model X.prog X.w) X.A (spliced (backTo pos (starEach es X.env))) (AP X pins σ Q) X.xe s
noncomputable def PS (X : Cx) (st : Stmt) (t : TS) : Prop :=
  ∀ (pins : List (Addr × Obj)) (s : Shared) (σ : St) (H : Hp) (D : Ends), Inv X pins σ H s → t D σ H → wpAny (model X.prog X.w) X.A (exec st X.env) (SP X pins D) X.xe s
noncomputable def PSs (X : Cx) (st : List Stmt) (t : TS) : Prop :=
  ∀ (pins : List (Addr × Obj)) (s : Shared) (σ : St) (H : Hp) (D : Ends), Inv X pins σ H s → t D σ H → wpAny (model X.prog X.w) X.A (execs st X.env) (SP X pins D) X.xe s
theorem thn {α : Type} {t : Sem α} {Q Q' : α → Shared → Prop} {M : Model} {A : Around} {E : Value → Shared → Prop} {s : Shared} (h : wpAny M A t Q E s) (hQ : ∀ a s, Q a s → Q' a s) : wpAny M A t Q' E s := wpAny_mono h hQ fun _ _ x => x
end L2

namespace L2
open PySem PySem.Spec PyProof.Rows
section
variable {X : Cx}

noncomputable def tVar (i : Nat) : TE := fun σ H Q => ∃ v, σ[i]? = some (some v) ∧ Q v H
noncomputable def tC (v : V) : TE := fun _ H Q => Q v H
theorem pe_var {i : Nat} {x : Str} {pos : Pos} (hN : X.N[i]? = some x) (hv : Vis X.env.scope x) (hd : (x == ("__debug__" : Str)) = false := by decide) (hcd : (x == ("__classdict__" : Str)) = false := by decide) : PE X (.Name x pos) (tVar i) := by
  intro pins s σ H Q I h
  obtain ⟨v, e, h⟩ := h
  obtain ⟨m, hn, hl⟩ := I.loc
  obtain ⟨u, r, l⟩ := hl i x v hN e hv
  have fin : EP X pins σ Q u s := ⟨v, H, I, r, h⟩
  rcases l with ⟨hk, hm⟩ | ⟨hk, c, hc, hcell⟩
  · exact wpAny_Name (wpAny_loadName_local I.ok.kind hk hn hm fin) hd
  · rcases hk with hk | hk
    · exact wpAny_Name (wpAny_loadName_cell I.ok.kind hk hc hcell fin) hd
    · exact wpAny_Name (wpAny_loadName_free I.ok.kind hk hc hcell fin hcd) hd
theorem pe_int {i j pos} : PE X (.Constant (.int i) j pos) (tC (.int i)) := fun _ _ _ H _ I h => wpAny_Constant_int ⟨.int i, H, I.tok _, ⟨_, rfl⟩, h⟩
theorem pe_bl {b j pos} : PE X (.Constant (.bool b) j pos) (tC (.bl b)) := fun _ _ _ H _ I h => Constant_bool ⟨.bl b, H, I, rfl, h⟩
theorem pe_non {j pos} : PE X (.Constant .none j pos) (tC .non) := fun _ _ _ H _ I h => Constant_none ⟨.non, H, I, rfl, h⟩
theorem pe_str {x j pos} : PE X (.Constant (.str x) j pos) (tC (.str x)) := fun _ _ _ H _ I h => Calls.Constant_str ⟨.str x, H, I.tok _, ⟨_, rfl⟩, h⟩

noncomputable def Gl (X : Cx) (x : Str) : Prop := X.env.kindOf x = some .globalImplicit
theorem ld_glob {E : Value → Shared → Prop} {pins : List (Addr × Obj)} {s : Shared} {σ : St} {H : Hp} {x : Str} {u : Value} {pos : Pos} {Q : Value → Shared → Prop} (I : Inv X pins σ H s) (hg : Gl X x) (hm : X.mg x = some u) (h : Q u s)
    (hd : (x == ("__debug__" : Str)) = false := by decide) : wpAny (model X.prog X.w) X.A (eval (.Name x pos) X.env) Q E s :=
  Calls.Name_function_global I.ok.kind hg (Calls.loadGlobal_global (by rw [I.ok.glob]; exact I.mod.glob.keeps I.bk) hm h) hd
theorem ld_blt {E : Value → Shared → Prop} {pins : List (Addr × Obj)} {s : Shared} {σ : St} {H : Hp} {x : Str} {u : Value} {pos : Pos} {Q : Value → Shared → Prop} (I : Inv X pins σ H s) (hg : Gl X x) (hm : X.mg x = none) (hv : bootBuiltins x = some u) (h : Q u s)
    (hn : x ≠ "__name__" := by decide) (hd : (x == ("__debug__" : Str)) = false := by decide) : wpAny (model X.prog X.w) X.A (eval (.Name x pos) X.env) Q E s := by
  obtain ⟨mb, h1, h2⟩ := I.mod.blt
  exact Calls.Name_function_global I.ok.kind hg (Calls.loadGlobal_builtin (by rw [I.ok.glob]; exact I.mod.glob.keeps I.bk) hm (by rw [I.ok.blt]; exact h1.keeps I.bk) ((h2 x hn).trans hv) h) hd
theorem pe_glob {x : Str} {v : V} {u : Value} {pos : Pos} (hg : Gl X x) (hm : X.mg x = some u) (r : RelV v u) (hd : (x == ("__debug__" : Str)) = false := by decide) : PE X (.Name x pos) (tC v) :=
  fun _ _ _ H _ I h => ld_glob I hg hm ⟨v, H, I, r, h⟩ hd
theorem pe_bltn {x : Str} {v : V} {u : Value} {pos : Pos} (hg : Gl X x) (hm : X.mg x = none) (hv : bootBuiltins x = some u) (r : RelV v u) (hn : x ≠ "__name__" := by decide) (hd : (x == ("__debug__" : Str)) = false := by decide) : PE X (.Name x pos) (tC v) :=
  fun _ _ _ H _ I h => ld_blt I hg hm hv ⟨v, H, I, r, h⟩ hn hd

variable {a b : Expr} {ta tb : TE} {pos : Pos}
noncomputable def tB (t : TE) : TT := fun σ H Q => t σ H fun x H1 => ∃ c, x = .bl c ∧ Q c H1
theorem pt_val {e : Expr} {t : TE} (h : PE X e t) (he : ∀ whole, isTrue e X.env whole = (do let v ← whole; standAt e.pos; holding [v] (truthy v)) := by intro _; rfl) : PT X e (tB t) := by
  intro pins s σ H Q I hw
  refine isTrue_plain (thn (h pins s σ H _ I hw) fun v s1 ⟨x, H1, I1, r1, q1⟩ => ?_) (he _)
  obtain ⟨d, rfl, q⟩ := q1
  cases r1
  exact wpAny_truthy_bool ⟨H1, I1, q⟩

variable {tA tB' : TT} {rest : List Expr}
noncomputable def tAnd (t u : TT) : TT := fun σ H Q => t σ H fun c H1 => if c = true then u σ H1 Q else Q false H1
noncomputable def tOr (t u : TT) : TT := fun σ H Q => t σ H fun c H1 => if c = true then Q true H1 else u σ H1 Q
noncomputable def tNot (t : TT) : TT := fun σ H Q => t σ H fun c H1 => Q (!c) H1
theorem pw_and1 (ha : PT X a tA) : PW X (.BoolOp .And [a] pos) tA := by
  intro wh pins s σ H Q I h
  refine isTrue_and (thn (ha pins s σ H Q I h) fun c s1 e => ?_)
  cases c with
  | true => exact isTrue_and_nil e
  | false => exact e
theorem pw_or1 (ha : PT X a tA) : PW X (.BoolOp .Or [a] pos) tA := by
  intro wh pins s σ H Q I h
  refine isTrue_or (thn (ha pins s σ H Q I h) fun c s1 e => ?_)
  cases c with
  | false => exact isTrue_or_nil e
  | true => exact e
theorem pw_and (ha : PT X a tA) (hb : PW X (.BoolOp .And (b :: rest) pos) tB') : PW X (.BoolOp .And (a :: b :: rest) pos) (tAnd tA tB') := by
  intro wh pins s σ H Q I h
  refine isTrue_and (thn (ha pins s σ H _ I h) fun c s1 ⟨H1, I1, q1⟩ => ?_)
  cases c with
  | true => exact hb wh pins s1 σ H1 Q I1 q1
  | false => exact ⟨H1, I1, q1⟩
theorem pw_or (ha : PT X a tA) (hb : PW X (.BoolOp .Or (b :: rest) pos) tB') : PW X (.BoolOp .Or (a :: b :: rest) pos) (tOr tA tB') := by
  intro wh pins s σ H Q I h
  refine isTrue_or (thn (ha pins s σ H _ I h) fun c s1 ⟨H1, I1, q1⟩ => ?_)
  cases c with
  | true => exact ⟨H1, I1, q1⟩
  | false => exact hb wh pins s1 σ H1 Q I1 q1
theorem pt_not (ha : PT X a tA) : PT X (.UnaryOp .Not a pos) (tNot tA) := by
  intro pins s σ H Q I h
  exact isTrue_not (ha pins s σ H (fun c H1 => Q (!c) H1) I h)
noncomputable def tAndV (ta tb : TE) : TE := fun σ H Q => ta σ H fun x H1 => ∃ c, x = .bl c ∧ if c = true then tb σ H1 Q else Q (.bl false) H1
noncomputable def tNotV (ta : TE) : TE := fun σ H Q => ta σ H fun x H1 => ∃ c, x = .bl c ∧ Q (.bl (!c)) H1
theorem pe_one {op} {t : TE} (h : PE X a t) : PE X (.BoolOp op [a] pos) t := fun pins s σ H Q I hw => BoolOp_one (h pins s σ H Q I hw)
theorem pe_and (ha : PE X a ta) (hb : PE X (.BoolOp .And (b :: rest) pos) tb) : PE X (.BoolOp .And (a :: b :: rest) pos) (tAndV ta tb) := by
  intro pins s σ H Q I h
  refine BoolOp_and (thn (ha pins s σ H _ I h) fun v s1 ⟨x, H1, I1, r1, q1⟩ => ?_)
  obtain ⟨c, rfl, q1⟩ := q1
  cases r1
  refine wpAny_truthy_bool ?_
  cases c with
  | true => exact hb pins s1 σ H1 Q I1 q1
  | false => exact ⟨.bl false, H1, I1, rfl, q1⟩
theorem pe_not (ha : PE X a ta) : PE X (.UnaryOp .Not a pos) (tNotV ta) := by
  intro pins s σ H Q I h
  refine UnaryOp_ (thn (ha pins s σ H _ I h) fun v s1 ⟨x, H1, I1, r1, q1⟩ => ?_)
  obtain ⟨c, rfl, q1⟩ := q1
  cases r1
  exact not_of (wpAny_truthy_bool ⟨.bl (!c), H1, I1, rfl, q1⟩)
noncomputable def tIf (t : TT) (ta tb : TE) : TE := fun σ H Q => t σ H fun c H1 => if c = true then ta σ H1 Q else tb σ H1 Q
theorem pe_ifExp {c : Expr} (hc : PT X c tA) (ha : PE X a ta) (hb : PE X b tb) : PE X (.IfExp c a b pos) (tIf tA ta tb) := by
  intro pins s σ H Q I h
  refine wpAny_IfExp (thn (hc pins s σ H _ I h) fun d s1 ⟨H1, I1, q1⟩ => ?_)
  cases d with
  | true => exact ha pins s1 σ H1 Q I1 q1
  | false => exact hb pins s1 σ H1 Q I1 q1
end
end L2

namespace L2
open PySem PySem.Spec PyProof.Rows

noncomputable def SqL (K : PySem.W.Frag) (H : Hp) (a : Addr) (xs : List V) : Prop :=
  Rd H a (.lst xs) ∨
    ∃ (o : Obj) (its : Array Value) (n : Nat), K.lookup a = some o ∧ o.cls = .type "list" ∧ o.dict = none ∧ o.data = .seq its n ∧ its.size ≤ sizeLine ∧ Vals xs its.toList
noncomputable def SqT (K : PySem.W.Frag) (H : Hp) (a : Addr) (xs : List V) : Prop :=
  Rd H a (.tup xs) ∨
    ∃ (o : Obj) (its : Array Value) (n : Nat), K.lookup a = some o ∧ o.cls = .type "tuple" ∧ o.data = .seq its n ∧ its.size ≤ sizeLine ∧ Vals xs its.toList
noncomputable def absV : Value → Option V
  | .none => some .non
  | .bool b => some (.bl b)
  | .int i _ => some (.int i)
  | .str x _ => some (.str x)
  | .bytes b _ => some (.byt b)
  | .float b _ => some (.flt b)
  | .ref a => some (.ref a)
  | .type n => some (.ty n)
  | _ => none
theorem RelV.abs {x : V} {u : Value} (r : RelV x u) : absV u = some x := by
  cases x with
  | non => cases r; rfl
  | bl _ => cases r; rfl
  | int _ => obtain ⟨t, rfl⟩ := r; rfl
  | str _ => obtain ⟨t, rfl⟩ := r; rfl
  | byt _ => obtain ⟨t, rfl⟩ := r; rfl
  | flt _ => obtain ⟨t, rfl⟩ := r; rfl
  | ref _ => cases r; rfl
  | ty _ => cases r; rfl
theorem RelV.inj {x y : V} {u : Value} (r : RelV x u) (q : RelV y u) : x = y := Option.some.inj (r.abs.symm.trans q.abs)
theorem Vals.inj : ∀ {xs ys : List V} {us : List Value}, Vals xs us → Vals ys us → xs = ys
  | _, _, _, .nil, .nil => rfl
  | _, _, _, .cons r t, .cons r' t' => by rw [r.inj r', Vals.inj t t']
section
variable {X : Cx} {pins : List (Addr × Obj)} {σ : St} {H : Hp} {s : Shared} {a : Addr} {xs ys : List V}
theorem SqL.of {K : PySem.W.Frag} (h : H a = some (.lst xs)) : SqL K H a xs := .inl (.inl h)
theorem SqT.of {K : PySem.W.Frag} (h : H a = some (.tup xs)) : SqT K H a xs := .inl (.inl h)
theorem Inv.list (I : Inv X pins σ H s) (h : SqL X.K H a xs) : ∃ its : List Value, Vals xs its ∧ PlainL s.heap a its.toArray ∧ xs.length ≤ sizeLine := by
  rcases h with h | ⟨o, its, n, hk, hc, hd, hs, hz, r⟩
  · obtain ⟨z, its, n, r, e⟩ := h.ok I.hok
    exact ⟨its, r, ⟨_, n, e, rfl, rfl, rfl⟩, z⟩
  · refine ⟨its.toList, r, ⟨o, n, I.kIn a o hk, hc, hd, by simpa using hs⟩, ?_⟩
    have e := r.length
    simp only [Array.length_toList] at e
    omega
theorem Inv.tuple (I : Inv X pins σ H s) (h : SqT X.K H a xs) : ∃ its : List Value, Vals xs its ∧ IsTup s.heap a its.toArray ∧ xs.length ≤ sizeLine := by
  rcases h with h | ⟨o, its, n, hk, hc, hs, hz, r⟩
  · obtain ⟨z, its, r, p⟩ := h.ok I.hok
    exact ⟨its, r, p, z⟩
  · refine ⟨its.toList, r, ⟨o, I.kIn a o hk, hc, n, by simpa using hs⟩, ?_⟩
    have e := r.length
    simp only [Array.length_toList] at e
    omega
theorem Inv.list_inj (I : Inv X pins σ H s) (h : SqL X.K H a xs) (h' : SqL X.K H a ys) : xs = ys := by
  obtain ⟨its, r, ⟨o, n, e, _, _, d⟩, _⟩ := I.list h
  obtain ⟨its', r', ⟨o', n', e', _, _, d'⟩, _⟩ := I.list h'
  rw [e] at e'; cases e'
  rw [d] at d'
  injection d' with d1 _
  have : its = its' := by simpa using congrArg Array.toList d1
  subst this
  exact r.inj r'
end

noncomputable abbrev Cx.wish (X : Cx) (E : Value → Shared → Prop) : Cx := { X with xe := E }
noncomputable abbrev Cx.nox (X : Cx) : Cx := X.wish fun _ _ => False
theorem Cx.Ok.wish {X : Cx} (ok : X.Ok) (E : Value → Shared → Prop) : (X.wish E).Ok :=
  ⟨ok.mod, ok.kind, ok.glob, ok.blt, ok.above, ok.inj, ok.has, ok.cab, ok.hd, ok.frames, ok.stk, ok.exf, ok.bs, ok.bsz, ok.noex, ok.exfs, ok.funs, ok.frf⟩
theorem Cx.Ok.unwish {X : Cx} {E : Value → Shared → Prop} (ok : (X.wish E).Ok) : X.Ok :=
  ⟨ok.mod, ok.kind, ok.glob, ok.blt, ok.above, ok.inj, ok.has, ok.cab, ok.hd, ok.frames, ok.stk, ok.exf, ok.bs, ok.bsz, ok.noex, ok.exfs, ok.funs, ok.frf⟩
section
variable {X : Cx} {pins : List (Addr × Obj)} {σ : St} {H : Hp} {s : Shared} {E : Value → Shared → Prop}
theorem Inv.wish (I : Inv X pins σ H s) (E : Value → Shared → Prop) : Inv (X.wish E) pins σ H s := ⟨I.ok.wish E, I.os, I.bare, I.base, I.loc, I.cell, I.free, I.freeC, I.pin, I.hok, I.len⟩
theorem Inv.unwish (I : Inv (X.wish E) pins σ H s) : Inv X pins σ H s := ⟨I.ok.unwish, I.os, I.bare, I.base, I.loc, I.cell, I.free, I.freeC, I.pin, I.hok, I.len⟩
theorem SP.unwish {D : Ends} {f : Flow} {s' : Shared} (h : SP (X.wish E) pins D f s') : SP X pins D f s' := by
  cases f with
  | next => obtain ⟨σ', H', I, q⟩ := h; exact ⟨σ', H', I.unwish, q⟩
  | brk => obtain ⟨σ', H', I, q⟩ := h; exact ⟨σ', H', I.unwish, q⟩
  | cont => obtain ⟨σ', H', I, q⟩ := h; exact ⟨σ', H', I.unwish, q⟩
  | ret u => obtain ⟨v, σ', H', I, r, q⟩ := h; exact ⟨v, σ', H', I.unwish, r, q⟩
theorem PE.nox {e : Expr} {t : TE} (h : PE X.nox e t) : PE X e t := fun pins s σ H Q I hw =>
  wpAny_mono (h pins s σ H Q (I.wish _) hw) (fun _ _ ⟨v, H', I', r, q⟩ => ⟨v, H', I'.unwish, r, q⟩) fun _ _ z => False.elim z
theorem PT.nox {e : Expr} {t : TT} (h : PT X.nox e t) : PT X e t := fun pins s σ H Q I hw =>
  wpAny_mono (h pins s σ H Q (I.wish _) hw) (fun _ _ ⟨H', I', q⟩ => ⟨H', I'.unwish, q⟩) fun _ _ z => False.elim z
theorem PSs.nox {st : List Stmt} {t : TS} (h : PSs X.nox st t) : PSs X st t := fun pins s σ H D I hw =>
  wpAny_mono (h pins s σ H D (I.wish _) hw) (fun _ _ q => q.unwish) fun _ _ z => False.elim z
end

section
variable {X : Cx} {st : Stmt} {rest : List Stmt} {t u : TS} {e : Expr} {te : TE} {pos : Pos}
noncomputable def tNext : TS := fun D σ H => D.nx σ H
noncomputable def tSeq (t u : TS) : TS := fun D σ H => t { D with nx := u D } σ H
theorem pss_nil : PSs X [] tNext := fun _ _ σ H _ I h => wpAny_execs_nil ⟨σ, H, I, h⟩
theorem pss_cons (h1 : PS X st t) (h2 : PSs X rest u) : PSs X (st :: rest) (tSeq t u) := by
  intro pins s σ H D I h
  refine wpAny_execs_cons (thn (h1 pins s σ H { D with nx := u D } I h) fun f s1 q => ?_)
  cases f with
  | next =>
    obtain ⟨σ', H', I', q⟩ := q
    exact h2 pins s1 σ' H' D I' q
  | ret v => exact q
  | brk => exact q
  | cont => exact q
theorem pss_one (h1 : PS X st t) : PSs X [st] t := by
  intro pins s σ H D I h
  refine wpAny_execs_cons (thn (h1 pins s σ H D I h) fun f s1 q => ?_)
  cases f with
  | next => exact wpAny_execs_nil q
  | ret v => exact q
  | brk => exact q
  | cont => exact q
theorem Inv.quiet {pins : List (Addr × Obj)} {σ : St} {H : Hp} {s : Shared} (I : Inv X pins σ H s) : interactive X.env = false := by simp [interactive, I.ok.kind]
noncomputable def tDrop (te : TE) : TS := fun D σ H => te σ H fun _ H1 => D.nx σ H1
theorem ps_expr (he : PE X e te) (hs : swapsWith e none pos.line X.env = pure false := by rfl) : PS X (.Expr e pos) (tDrop te) := by
  intro pins s σ H D I h
  exact wpAny_Expr_any (thn (he pins s σ H _ I h) fun v s1 ⟨x, H1, I1, r1, q1⟩ => ⟨σ, H1, I1, q1⟩) I.quiet hs
noncomputable def tRet (te : TE) : TS := fun D σ H => te σ H D.rt
theorem ps_ret (he : PE X e te) : PS X (.Return (some e) pos) (tRet te) := by
  intro pins s σ H D I h
  exact wpAny_Return_some (thn (he pins s σ H _ I h) fun v s1 ⟨x, H1, I1, r1, q1⟩ => ⟨x, σ, H1, I1, r1, q1⟩)
noncomputable def tIfS (c : TT) (t u : TS) : TS := fun D σ H => c σ H fun b H1 => if b = true then t D σ H1 else u D σ H1
theorem ps_if {c : Expr} {a b : List Stmt} {tc : TT} (hc : PT X c tc) (ha : PSs X a t) (hb : PSs X b u) : PS X (.If c a b pos) (tIfS tc t u) := by
  intro pins s σ H D I h
  refine wpAny_If (thn (hc pins s σ H _ I h) fun d s1 ⟨H1, I1, q1⟩ => ?_)
  cases d with
  | true => exact ha pins s1 σ H1 D I1 q1
  | false => exact hb pins s1 σ H1 D I1 q1
end

noncomputable abbrev TG := V → St → Hp → (St → Hp → Prop) → Prop
noncomputable abbrev TGs := List V → St → Hp → (St → Hp → Prop) → Prop
noncomputable def PG (X : Cx) (target : Expr) (t : TG) : Prop :=
  ∀ (pins : List (Addr × Obj)) (s : Shared) (σ : St) (H : Hp) (v : V) (u : Value) (Q : St → Hp → Prop), Inv X pins σ H s → RelV v u → t v σ H Q →
    wpAny (model X.prog X.w) X.A (assign target X.env u) (fun _ s' => ∃ σ' H', Inv X pins σ' H' s' ∧ Q σ' H') X.xe s
noncomputable def PGs (X : Cx) (ts : List Expr) (t : TGs) : Prop :=
  ∀ (pins : List (Addr × Obj)) (s : Shared) (σ : St) (H : Hp) (vs : List V) (us : List Value) (Q : St → Hp → Prop), Inv X pins σ H s → Vals vs us → t vs σ H Q →
    wpAny (model X.prog X.w) X.A (assignInOrder ((assignEach ts X.env).map (·.2)) us) (fun _ s' => ∃ σ' H', Inv X pins σ' H' s' ∧ Q σ' H') X.xe s
section
variable {X : Cx} {pos : Pos}
noncomputable def gName (i : Nat) : TG := fun v σ H Q => Q (σ.set i (some v)) H
theorem pg_name {i : Nat} {x : Str} (hN : X.N.Nodup) (hi : X.N[i]? = some x) (hx : Loc X.env.scope x) (hf : X.fn x = true ∨ X.env.scope.names.lookup x = some .local := by first | exact .inl rfl | exact .inr rfl | assumption) : PG X (.Name x pos) (gName i) := by
  intro pins s σ H v u Q I r h
  exact wpAny_assign_Name (store_ok I hN hi hx r (fun s' I' => ⟨_, H, I', h⟩) hf)
noncomputable def gNil : TGs := fun vs σ H Q => vs = [] ∧ Q σ H
noncomputable def gCons (t : TG) (u : TGs) : TGs := fun vs σ H Q => ∃ v r, vs = v :: r ∧ t v σ H fun σ' H' => u r σ' H' Q
theorem pgs_nil : PGs X [] gNil := by
  intro pins s σ H vs us Q I r h
  obtain ⟨e, h⟩ := h
  subst e
  cases r
  exact assignInOrder_nil ⟨σ, H, I, h⟩
theorem pgs_cons {e : Expr} {es : List Expr} {t : TG} {u : TGs} (h1 : PG X e t) (h2 : PGs X es u)
    (hs : (assignEach (e :: es) X.env).map (·.2) = assign e X.env :: (assignEach es X.env).map (·.2) := by rfl) : PGs X (e :: es) (gCons t u) := by
  intro pins s σ H vs us Q I r h
  obtain ⟨v, vr, e1, h⟩ := h
  subst e1
  cases r with
  | cons r rr =>
    rw [hs]
    refine assignInOrder_cons (thn (h1 pins s σ H _ _ _ I r h) fun _ s1 ⟨σ1, H1, I1, q1⟩ => ?_)
    exact h2 pins s1 σ1 H1 _ _ Q I1 rr q1
noncomputable def gTup (K : PySem.W.Frag) (n : Nat) (t : TGs) : TG := fun v σ H Q => ∃ a xs, v = .ref a ∧ SqT K H a xs ∧ xs.length = n ∧ t xs σ H Q
theorem pg_tup {es : List Expr} {k : Nat} {t : TGs} {n : Nat} (hc : X.calm = true) (h : PGs X es t)
    (hn : (assignEach es X.env).length = n := by rfl) (hst : (assignEach es X.env).findIdx? (·.1) = none := by rfl) : PG X (.Tuple es k pos) (gTup X.K n t) := by
  intro pins s σ H v u Q I r hw
  obtain ⟨a, xs, e1, hq, hl, hw⟩ := hw
  subst e1
  cases r
  obtain ⟨its, rv, ht, hz⟩ := I.tuple hq
  refine assign_Tuple_tuple (I.ok.hd hc) ht (by simp [hn, ← hl, rv.length]) hst fun h' hx => ?_
  have I1 : Inv X pins σ H { s with heap := h' } := I.kept (t' := s.toks) fun b o e => hx b o (Nat.ne_of_lt (Heap.lt_size e)) e
  exact h pins _ σ H xs _ Q I1 (by simpa using rv) hw
noncomputable def tAsg (te : TE) (g : TG) : TS := fun D σ H => te σ H fun x H1 => g x σ H1 D.nx
theorem ps_set {i : Nat} {x : Str} {e : Expr} {te : TE} {pos' : Pos} (hN : X.N.Nodup) (hi : X.N[i]? = some x) (hx : Loc X.env.scope x) (he : PE X e te) (hs : swapsWith e (some (.Name x pos')) pos.line X.env = pure false := by rfl) (hf : X.fn x = true ∨ X.env.scope.names.lookup x = some .local := by first | exact .inl rfl | exact .inr rfl | assumption) :
    PS X (.Assign [.Name x pos'] e pos) (tAsg te (gName i)) := by
  intro pins s σ H D I h
  refine wpAny_Assign_Name (thn (he pins s σ H _ I h) fun v s1 ⟨y, H1, I1, r1, q1⟩ => ?_) hs
  exact store_ok I1 hN hi hx r1 (fun s2 I2 => ⟨_, H1, I2, q1⟩) hf
end

section
variable {X : Cx} {pos : Pos}
noncomputable def tWhile (c : TT) (tb : TS) : TS := fun D σ H => ∃ W : Nat → St → Hp → Prop, (∃ m, W m σ H) ∧ ∀ m σ H, W m σ H →
  c σ H fun b H1 => if b = true then ∃ N : St → Hp → Prop, (∀ σ' H', N σ' H' → ∃ m', m' < m ∧ W m' σ' H') ∧ tb { D with nx := N, ct := N, bk := D.nx } σ H1 else D.nx σ H1
theorem ps_while {c : Expr} {body : List Stmt} {tc : TT} {tb : TS} (hp : PassesOwn (model X.prog X.w) X.A X.env X.xe) (hc : PT X c tc) (hb : PSs X body tb) : PS X (.While c body [] pos) (tWhile tc tb) := by
  intro pins s σ H D I h
  obtain ⟨W, ⟨m0, w0⟩, turn⟩ := h
  refine wpAny_While (codeAny_whileLoop (fun n s' => ∃ σ' H', Inv X pins σ' H' s' ∧ W n σ' H') ?_ m0 ⟨σ, H, I, w0⟩)
  rintro n s1 ⟨σ1, H1, I1, w1⟩
  refine wpAny_passesOwn hp (thn (hc pins s1 σ1 H1 _ I1 (turn n σ1 H1 w1)) fun b s2 ⟨H2, I2, q2⟩ => ?_)
  cases b with
  | true =>
    obtain ⟨N, hN, q2⟩ := q2
    rw [if_pos rfl]
    refine wpAny_passesOwn hp (thn (hb pins s2 σ1 H2 _ I2 q2) fun f s3 q3 => ?_)
    cases f with
    | next =>
      obtain ⟨σ3, H3, I3, n3⟩ := q3
      obtain ⟨m', hm, w3⟩ := hN σ3 H3 n3
      exact ⟨m', hm, σ3, H3, I3, w3⟩
    | cont =>
      obtain ⟨σ3, H3, I3, n3⟩ := q3
      obtain ⟨m', hm, w3⟩ := hN σ3 H3 n3
      exact ⟨m', hm, σ3, H3, I3, w3⟩
    | brk => exact q3
    | ret v => exact q3
  | false =>
    rw [if_neg Bool.false_ne_true]
    exact wpAny_execs_nil ⟨σ1, H2, I2, q2⟩
end

structure It where
  go : Nat → Hp → Prop
  yld : Nat → Hp → V → Hp → Prop
  stop : Nat → Hp → Prop
noncomputable def FpOk (X : Cx) (pins : List (Addr × Obj)) (H : Hp) (b : Addr) : Prop :=
  H b = none ∧ b ≠ X.env.locals ∧ b ∉ X.fs ∧ (b ∈ X.ex ∨ X.s₀.heap.objs.size ≤ b) ∧ (∀ x c, X.env.cells.lookup x = some c → c ≠ b) ∧ ∀ p ∈ X.pn ++ pins, p.1 ≠ b
theorem Inv.fpOk {X : Cx} {pins : List (Addr × Obj)} {σ : St} {H H' : Hp} {s : Shared} {b : Addr} (I : Inv X pins σ H s) (hb : s.heap.objs.size ≤ b) (hn : H' b = none) : FpOk X pins H' b := by
  refine ⟨hn, Nat.ne_of_gt (Nat.lt_of_lt_of_le I.lt hb), I.nofs hb, .inr (Nat.le_trans I.sz hb), fun x c e z => ?_, fun p hp z => ?_⟩
  · obtain ⟨v, q⟩ := I.cell x c e
    exact absurd (Nat.lt_of_lt_of_le q.lt (by rw [z]; exact hb)) (Nat.lt_irrefl _)
  · exact absurd (Nat.lt_of_lt_of_le (Heap.lt_size (I.pin p hp).1) (by rw [z]; exact hb)) (Nat.lt_irrefl _)
structure Turn (P : Program) (w : World) (K : PySem.W.Frag) (tg : Expr) (J : It) (fp : List Addr) (it : Addr) (tn : Nat → Heap → Prop) : Prop where
  mem : it ∈ fp
  obj : ∀ i h, tn i h → ∀ b ∈ fp, ∃ o, h.get? b = some o ∧ ∀ v, o.data ≠ .cell v
  keep : ∀ i h h', tn i h → (∀ b ∈ fp, ∀ o, h.get? b = some o → h'.get? b = some o) → tn i h'
  item : ∀ (X : Cx), X.prog = P → X.w = w → X.K = K → X.calm = true → ∀ (i : Nat) (pins : List (Addr × Obj)) (s : Shared) (σ : St) (H : Hp) (E : Value → Shared → Prop), Inv X pins σ H s → (∀ b ∈ fp, FpOk X pins H b) → tn i s.heap → J.go i H →
    wpAny (model P w) X.A (pyNext (.ref it)) (fun r s1 => ∃ u, r = some u ∧
      wpAny (model P w) X.A (letOwnedTupleGo tg (.ref it) u) (fun _ s2 => ∃ x H', Inv X pins σ H' s2 ∧ RelV x u ∧ J.yld i H x H' ∧ tn (i + 1) s2.heap ∧ ∀ b ∈ fp, H' b = none) E s1) E s
  done : ∀ (X : Cx), X.prog = P → X.w = w → X.K = K → X.calm = true → ∀ (i : Nat) (pins : List (Addr × Obj)) (s : Shared) (σ : St) (H : Hp) (E : Value → Shared → Prop), Inv X pins σ H s → (∀ b ∈ fp, FpOk X pins H b) → tn i s.heap → J.stop i H →
    wpAny (model P w) X.A (pyNext (.ref it)) (fun r s1 => r = none ∧ Inv X pins σ H s1) E s
  self : ∀ (A : Around) (i : Nat) (s : Shared) (Q : Value → Shared → Prop) (E : Value → Shared → Prop), tn i s.heap → Q (.ref it) s → wpAny (model P w) A (pyIter (.ref it)) Q E s
noncomputable abbrev TI := St → Hp → (It → Hp → Prop) → Prop
noncomputable def PIE (X : Cx) (pins : List (Addr × Obj)) (σ : St) (tg : Expr) (R : It → Hp → Prop) (itv : Value) (s2 : Shared) : Prop :=
  ∃ (it : Addr) (fp : List Addr) (tn : Nat → Heap → Prop) (J : It) (H' : Hp), itv = .ref it ∧ Inv X pins σ H' s2 ∧ Turn X.prog X.w X.K tg J fp it tn ∧ tn 0 s2.heap ∧ (∀ b ∈ fp, FpOk X pins H' b) ∧ R J H'
noncomputable def PI (X : Cx) (tg iter : Expr) (wi : TI) : Prop :=
  ∀ (pins : List (Addr × Obj)) (s : Shared) (σ : St) (H : Hp) (R : It → Hp → Prop), Inv X pins σ H s → wi σ H R →
    wpAny (model X.prog X.w) X.A (eval iter X.env) (fun v s1 => wpAny (model X.prog X.w) X.A (pyIter v) (PIE X pins σ tg R) X.xe s1) X.xe s

theorem go_of {M : Model} {A : Around} {E : Value → Shared → Prop} {s : Shared} {tg : Expr} {it : Addr} {u : Value} {o : Obj} {n : String} {vs : Array Value} {Q : Unit → Shared → Prop} (ho : s.heap.get? it = some o) (hc : o.cls = .type n) (hd : o.data = .fields vs)
    (hn : ["enumerate", "zip", "dict_itemiterator", "dict_reverseitemiterator", "odict_iterator", "itertools.zip_longest", "itertools.pairwise"].contains n = false) (hQ : Q () s) : wpAny M A (letOwnedTupleGo tg (.ref it) u) Q E s := by
  unfold letOwnedTupleGo
  cases tg <;> first
    | exact wpAny_pure hQ
    | (cases u <;> first
        | exact wpAny_pure hQ
        | (refine wpAny_bind (wpAny_load ho ?_)
           rw [hc, hd]
           show wpAny M A (if (["enumerate", "zip", "dict_itemiterator", "dict_reverseitemiterator", "odict_iterator", "itertools.zip_longest", "itertools.pairwise"].contains n && vs[0]? == some (rawInt _)) = true then _ else _) Q E s
           rw [if_neg (by intro h; rw [hn, Bool.false_and] at h; cases h)]
           exact wpAny_pure hQ))

noncomputable def Itl (K : PySem.W.Frag) (a : Addr) : It :=
  ⟨fun i H => ∃ xs x, SqL K H a xs ∧ xs[i]? = some x, fun i H x H' => H' = H ∧ ∀ xs, SqL K H a xs → xs[i]? = some x, fun i H => ∃ xs, SqL K H a xs ∧ xs.length ≤ i⟩
noncomputable def Itr (lo : Int) (n : Nat) : It := ⟨fun i _ => i < n, fun i H x H' => H' = H ∧ x = .int (lo + i), fun i _ => n ≤ i⟩
theorem turn_list {P : Program} {w : World} {K : PySem.W.Frag} {tg : Expr} (a it : Addr) : Turn P w K tg (Itl K a) [it] it (fun i h => h.IsListIter it a i) where
  mem := by simp
  obj := fun i h st b hb => by
    have e : b = it := by simpa using hb
    subst e
    obtain ⟨o, e, c, d⟩ := st
    exact ⟨o, e, fun v z => by rw [d] at z; cases z⟩
  keep := fun i h h' st k => st.at fun o e => k it (by simp) o e
  item := by
    intro X hP hw hK hc i pins s σ H E I hf st hg
    subst hP hw hK
    obtain ⟨xs, x, hq, hx⟩ := hg
    obtain ⟨its, rv, p, hz⟩ := I.list hq
    obtain ⟨u, hu, ru⟩ := rv.get hx
    obtain ⟨f0, f1, f2, f3, f4, f5⟩ := hf it (by simp)
    refine wpAny_pyNext_list_item st p.isList (x := u) (by simpa using hu) fun h' st' sb => ?_
    have I1 : Inv X pins σ H { s with heap := h' } := I.turned (t' := s.toks) (fun b o hb e => (sb.2 b hb).trans e) f0 f1 f3 f4 f5
    obtain ⟨o, e, c, d⟩ := id st'
    exact ⟨u, rfl, go_of (s := { s with heap := h' }) e c d (by decide) ⟨x, H, I1, ru, ⟨rfl, fun ys hy => by rw [I.list_inj hy hq]; exact hx⟩, st', fun b hb => (hf b hb).1⟩⟩
  done := by
    intro X hP hw hK hc i pins s σ H E I hf st hg
    subst hP hw hK
    obtain ⟨xs, hq, hx⟩ := hg
    obtain ⟨its, rv, p, hz⟩ := I.list hq
    obtain ⟨f0, f1, f2, f3, f4, f5⟩ := hf it (by simp)
    have hl := rv.length
    exact wpAny_pyNext_list_end (I.ok.hd hc) st p.isList (by simp; omega) fun h' eb => ⟨rfl, I.turned (t' := s.toks) (fun b o hb e => eb b o hb e) f0 f1 f3 f4 f5⟩
  self := fun _ _ _ _ _ st h => wpAny_pyIter_listiter st h
theorem turn_range {P : Program} {w : World} {K : PySem.W.Frag} {tg : Expr} (it : Addr) (lo : Int) (n : Nat) : Turn P w K tg (Itr lo n) [it] it (fun i h => IsRangeIter h it (lo + (i : Nat) * 1) ((n : Int) - (i : Nat)) 1) where
  mem := by simp
  obj := fun i h st b hb => by
    have e : b = it := by simpa using hb
    subst e
    exact ⟨_, st, fun v z => by
      have z' : Data.fields _ = Data.cell v := z
      cases z'⟩
  keep := fun i h h' st k => k it (by simp) _ st
  item := by
    intro X hP hw hK hc i pins s σ H E I hf st hg
    subst hP hw hK
    obtain ⟨f0, f1, f2, f3, f4, f5⟩ := hf it (by simp)
    have W := Walks.range (prog := X.prog) (w := X.w) (I.ok.hd hc) it lo 1 n
    refine W.item i s _ _ hg st fun v h' tk hv st' kk => ?_
    obtain ⟨t, rfl⟩ := hv
    have I1 : Inv X pins σ H { s with heap := h', toks := tk } := I.turned (fun b o hb e => kk b o (by simpa using hb) e) f0 f1 f3 f4 f5
    refine ⟨_, rfl, go_of (s := { s with heap := h', toks := tk }) (n := "range_iterator") st' rfl rfl (by decide) ⟨.int (lo + i), H, I1, ⟨t, ?_⟩, ⟨rfl, rfl⟩, st', fun b hb => (hf b hb).1⟩⟩
    rw [Int.mul_one]
  done := by
    intro X hP hw hK hc i pins s σ H E I hf st hg
    subst hP hw hK
    obtain ⟨f0, f1, f2, f3, f4, f5⟩ := hf it (by simp)
    exact wpAny_pyNext_range_end (I.ok.hd hc) st (by have : n ≤ i := hg; omega) fun h' eb => ⟨rfl, I.turned (t' := s.toks) (fun b o hb e => eb b o hb e) f0 f1 f3 f4 f5⟩
  self := fun _ _ _ _ _ st h => wpAny_pyIter_rangeiter st h
end L2

namespace L2
open PySem PySem.Spec PyProof.Rows
section
variable {X : Cx} {tg : Expr}
noncomputable def iList (K : PySem.W.Frag) (tl : TE) : TI := fun σ H R => tl σ H fun x H1 => ∃ a, x = .ref a ∧ (∃ xs, SqL K H1 a xs) ∧ R (Itl K a) H1
theorem pi_list {l : Expr} {tl : TE} (hl : PE X l tl) : PI X tg l (iList X.K tl) := by
  intro pins s σ H R I h
  refine thn (hl pins s σ H _ I h) fun v s1 ⟨x, H1, I1, r1, q1⟩ => ?_
  obtain ⟨a, e, ⟨xs, hq⟩, q⟩ := q1
  subst e
  cases r1
  obtain ⟨its, rv, p, hz⟩ := I1.list hq
  refine wpAny_pyIter_list p.isList ?_
  refine ⟨s1.heap.objs.size, [s1.heap.objs.size], _, _, H1, rfl, I1.kept (t' := s1.toks) fun b o e => Heap.get?_push_of_some _ e, turn_list a _, ⟨_, Heap.get?_push_size _ rfl, rfl, rfl⟩, fun b hb => ?_, q⟩
  have e : b = s1.heap.objs.size := by simpa using hb
  subst e
  exact I1.fpOk (Nat.le_refl _) (I1.hok.fresh (Nat.le_refl _))
theorem range_it {pins : List (Addr × Obj)} {σ : St} {H : Hp} {s : Shared} {R : It → Hp → Prop} {E : Value → Shared → Prop} {lo hi : Int} {t u v : Tok} {tk : Nat} (I : Inv X pins σ H s) (h1 : -(2 ^ 62) ≤ lo) (h2 : lo < 2 ^ 62) (h3 : -(2 ^ 62) ≤ hi) (h4 : hi < 2 ^ 62)
    (q : R (Itr lo (hi - lo).toNat) H) : wpAny (model X.prog X.w) X.A (pyIter (.ref s.heap.objs.size)) (PIE X pins σ tg R) E { s with heap := s.heap.push { cls := .type "range", data := .fields #[.int lo t, .int hi u, .int 1 v] }, toks := tk } := by
  refine wpAny_pyIter_range (IsRange.new ..) (small_one h1 h2 h3 h4) ?_
  have I1 : Inv X pins σ H { s with heap := s.heap.push { cls := .type "range", data := .fields #[.int lo t, .int hi u, .int 1 v] }, toks := tk } := I.kept fun b o e => Heap.get?_push_of_some _ e
  refine ⟨(s.heap.push { cls := .type "range", data := .fields #[.int lo t, .int hi u, .int 1 v] }).objs.size, [(s.heap.push { cls := .type "range", data := .fields #[.int lo t, .int hi u, .int 1 v] }).objs.size], _, _, H, rfl,
    I1.kept (t' := tk) fun b o e => Heap.get?_push_of_some _ e, turn_range _ lo (hi - lo).toNat, ?_, fun b hb => ?_, q⟩
  · have e1 : lo + ((0 : Nat) : Int) * 1 = lo := by simp
    have e2 : (((hi - lo).toNat : Nat) : Int) - ((0 : Nat) : Int) = Builtin.Range.rangeSize lo hi 1 := by rw [rangeSize_one]; split <;> omega
    show IsRangeIter _ _ (lo + ((0 : Nat) : Int) * 1) ((((hi - lo).toNat : Nat) : Int) - ((0 : Nat) : Int)) 1
    rw [e1, e2]
    exact Heap.get?_push_size _ rfl
  · have e : b = (s.heap.push { cls := .type "range", data := .fields #[.int lo t, .int hi u, .int 1 v] }).objs.size := by simpa using hb
    subst e
    exact I1.fpOk (Nat.le_refl _) (I1.hok.fresh (Nat.le_refl _))
noncomputable def iRng1 (ta : TA) : TI := fun σ H R => ta σ H fun vs H1 => ∃ j : Int, vs = [.int j] ∧ -(2 ^ 62) ≤ j ∧ j < 2 ^ 62 ∧ R (Itr 0 j.toNat) H1
noncomputable def iRng2 (ta : TA) : TI := fun σ H R => ta σ H fun vs H1 => ∃ i j : Int, vs = [.int i, .int j] ∧ (-(2 ^ 62) ≤ i ∧ i < 2 ^ 62 ∧ -(2 ^ 62) ≤ j ∧ j < 2 ^ 62) ∧ R (Itr i (j - i).toNat) H1
theorem pi_range1 {a : Expr} {ta : TA} {p pos : Pos} (hg : Gl X "range") (hm : X.mg "range" = none) (ha : PA X [a] ta) (hs : starEach [a] X.env = [(false, eval a X.env)] := by rfl) : PI X tg (.Call (.Name "range" p) [a] [] pos) (iRng1 ta) := by
  intro pins s σ H R I h
  refine Call_ (ld_blt I hg hm boot_range (PyProof.Rows.callWith_type1 (thn (ha pos pins s σ H _ I h) fun us s1 ⟨vs, H1, I1, r1, q1⟩ => ?_) hs rfl))
  obtain ⟨j, e, q1, q2, q⟩ := q1
  subst e
  cases r1 with
  | cons r rr =>
    cases rr
    obtain ⟨t, rfl⟩ := r
    exact call_range_1 (range_it I1 (by omega) (by omega) q1 q2 (by simpa using q))
theorem pi_range2 {a b : Expr} {ta : TA} {p pos : Pos} (hg : Gl X "range") (hm : X.mg "range" = none) (ha : PA X [a, b] ta) (hs : starEach [a, b] X.env = [(false, eval a X.env), (false, eval b X.env)] := by rfl) (hs2 : starEach [b] X.env = [(false, eval b X.env)] := by rfl) :
    PI X tg (.Call (.Name "range" p) [a, b] [] pos) (iRng2 ta) := by
  intro pins s σ H R I h
  refine Call_ (ld_blt I hg hm boot_range (PyProof.Rows.callWith_type1 (thn (ha pos pins s σ H _ I h) fun us s1 ⟨vs, H1, I1, r1, q1⟩ => ?_) (by rw [hs, hs2]) (by rw [hs2]; rfl)))
  obtain ⟨i, j, e, ⟨q1, q2, q3, q4⟩, q⟩ := q1
  subst e
  cases r1 with
  | cons r rr =>
    cases rr with
    | cons r' rr =>
      cases rr
      obtain ⟨t, rfl⟩ := r
      obtain ⟨t', rfl⟩ := r'
      exact call_range_2 (range_it I1 q1 q2 q3 q4 q)

noncomputable def tFor (wi : TI) (g : TG) (tb : TS) : TS := fun D σ H => wi σ H fun J H1 => ∃ W : Nat → Nat → St → Hp → Prop, (∃ m, W 0 m σ H1) ∧ ∀ i m σ H, W i m σ H →
  (J.stop i H ∧ D.nx σ H) ∨ (J.go i H ∧ ∃ N : St → Hp → Prop, (∀ σ' H', N σ' H' → ∃ m', m' < m ∧ W (i + 1) m' σ' H') ∧ ∀ x H', J.yld i H x H' → g x σ H' fun σ2 H2 => tb { D with nx := N, ct := N, bk := D.nx } σ2 H2)
noncomputable def pinsAt (fp : List Addr) (h : Heap) : List (Addr × Obj) := fp.filterMap fun b => (h.get? b).map fun o => (b, o)
theorem mem_pinsAt {fp : List Addr} {h : Heap} {b : Addr} {o : Obj} (hb : b ∈ fp) (e : h.get? b = some o) : (b, o) ∈ pinsAt fp h := List.mem_filterMap.mpr ⟨b, hb, by rw [e]; rfl⟩
theorem of_pinsAt {fp : List Addr} {h : Heap} {p : Addr × Obj} (hp : p ∈ pinsAt fp h) : p.1 ∈ fp ∧ h.get? p.1 = some p.2 := by
  obtain ⟨b, hb, e⟩ := List.mem_filterMap.mp hp
  cases q : h.get? b with
  | none => rw [q] at e; cases e
  | some o =>
    rw [q] at e
    have e' : (b, o) = p := Option.some.inj e
    subst e'
    exact ⟨hb, q⟩
theorem Inv.pinned {pins : List (Addr × Obj)} {σ : St} {H : Hp} {s : Shared} {fp : List Addr} (I : Inv X pins σ H s) (hf : ∀ b ∈ fp, FpOk X pins H b) (ho : ∀ b ∈ fp, ∃ o, s.heap.get? b = some o ∧ ∀ v, o.data ≠ .cell v) : Inv X (pins ++ pinsAt fp s.heap) σ H s :=
  I.pins_of fun p hp => (List.mem_append.mp hp).elim (fun z => I.pin p (List.mem_append_right _ z)) fun z => by
    obtain ⟨hb, e⟩ := of_pinsAt z
    obtain ⟨f0, f1, f2, _⟩ := hf p.1 hb
    obtain ⟨o, e', d⟩ := ho p.1 hb
    rw [e] at e'; cases e'
    exact ⟨e, f0, f1, f2, d⟩
theorem Inv.unpinned {pins pl : List (Addr × Obj)} {σ : St} {H : Hp} {s : Shared} (I : Inv X (pins ++ pl) σ H s) : Inv X pins σ H s := I.pins_of fun p hp => I.pin p (List.mem_append_right _ (List.mem_append_left _ hp))
theorem ps_for {iter : Expr} {body : List Stmt} {wi : TI} {g : TG} {tb : TS} {pos : Pos} (hp : PassesOwn (model X.prog X.w) X.A X.env X.xe) (hc : X.calm = true) (hi : PI X tg iter wi) (hg : PG X tg g) (hb : PSs X body tb)
    (hs : ∀ x, foldedSetIterable iter X.env x = pure x := by intro _; rfl) : PS X (.For tg iter body [] pos) (tFor wi g tb) := by
  intro pins s σ H D I h
  refine wpAny_For (thn (hi pins s σ H _ I h) fun v s1 h1 => thn h1 fun itv s2 h2 => ?_) hs
  obtain ⟨it, fp, tn, J, H2, e, I2, T, st2, f2, W, ⟨m0, w0⟩, turn⟩ := h2
  subst e
  -- what stays true of the iterator's objects through the loop
  have stat : ∀ {H' : Hp}, (∀ b ∈ fp, H' b = none) → ∀ b ∈ fp, FpOk X pins H' b := fun hn b hb => ⟨hn b hb, (f2 b hb).2⟩
  refine codeAny_forLoop_any (fun n s' => ∃ i σ' H', Inv X pins σ' H' s' ∧ tn i s'.heap ∧ (∀ b ∈ fp, H' b = none) ∧ W i n σ' H') ?_ m0 ⟨0, σ, H2, I2, st2, fun b hb => (f2 b hb).1, w0⟩
  rintro n s3 ⟨i, σ3, H3, I3, st3, fr3, w3⟩
  rcases turn i n σ3 H3 w3 with ⟨stop, qn⟩ | ⟨go, N, hN, step⟩
  · refine wpAny_passesOwn hp (thn (T.done X rfl rfl rfl hc i pins s3 σ3 H3 X.xe I3 (stat fr3) st3 stop) fun r s4 ⟨hr, I4⟩ => ?_)
    subst hr
    exact wpAny_execs_nil ⟨σ3, H3, I4, qn⟩
  · refine wpAny_passesOwn hp (thn (T.item X rfl rfl rfl hc i pins s3 σ3 H3 X.xe I3 (stat fr3) st3 go) fun r s4 ⟨u, hr, h4⟩ => ?_)
    subst hr
    refine wpAny_passesOwn hp (thn h4 fun _ s5 ⟨x, H5, I5, r5, y5, st5, fr5⟩ => ?_)
    have I5' := I5.pinned (stat fr5) (T.obj _ _ st5)
    refine wpAny_passesOwn hp (thn (hg _ s5 σ3 H5 x u _ I5' r5 (step x H5 y5)) fun _ s6 ⟨σ6, H6, I6, q6⟩ => ?_)
    refine wpAny_passesOwn hp (thn (hb _ s6 σ6 H6 _ I6 q6) fun f s7 q7 => ?_)
    have again : ∀ {σ7 : St} {H7 : Hp}, Inv X (pins ++ pinsAt fp s5.heap) σ7 H7 s7 → N σ7 H7 → ∃ m, m < n ∧ ∃ i σ' H', Inv X pins σ' H' s7 ∧ tn i s7.heap ∧ (∀ b ∈ fp, H' b = none) ∧ W i m σ' H' := fun {σ7 H7} I7 n7 => by
      obtain ⟨m', hm, w7⟩ := hN σ7 H7 n7
      refine ⟨m', hm, i + 1, σ7, H7, I7.unpinned, T.keep _ _ _ st5 fun b hb o e => (I7.pin (b, o) (List.mem_append_right _ (List.mem_append_right _ (mem_pinsAt hb e)))).1, fun b hb => ?_, w7⟩
      obtain ⟨o, e, d⟩ := T.obj _ _ st5 b hb
      exact (I7.pin (b, o) (List.mem_append_right _ (List.mem_append_right _ (mem_pinsAt hb e)))).2.1
    cases f with
    | next => obtain ⟨σ7, H7, I7, n7⟩ := q7; exact again I7 n7
    | cont => obtain ⟨σ7, H7, I7, n7⟩ := q7; exact again I7 n7
    | brk => obtain ⟨σ7, H7, I7, q7⟩ := q7; exact ⟨σ7, H7, I7.unpinned, q7⟩
    | ret v => obtain ⟨x7, σ7, H7, I7, r7, q7⟩ := q7; exact ⟨x7, σ7, H7, I7.unpinned, r7, q7⟩
end

theorem for_list {K : PySem.W.Frag} {a : Addr} {xs : List V} {g : TG} {tb : TS} {D : Ends} {σ : St} {H : Hp} (Pv : Nat → St → Hp → Prop) (h0 : Pv 0 σ H) (hl : ∀ i σ H, i ≤ xs.length → Pv i σ H → SqL K H a xs)
    (hs : ∀ i x σ H, xs[i]? = some x → Pv i σ H → g x σ H fun σ2 H2 => tb { D with nx := Pv (i + 1), ct := Pv (i + 1), bk := D.nx } σ2 H2) (hd : ∀ σ H, Pv xs.length σ H → D.nx σ H) :
    ∃ W : Nat → Nat → St → Hp → Prop, (∃ m, W 0 m σ H) ∧ ∀ i m σ H, W i m σ H →
      ((Itl K a).stop i H ∧ D.nx σ H) ∨ ((Itl K a).go i H ∧ ∃ N : St → Hp → Prop, (∀ σ' H', N σ' H' → ∃ m', m' < m ∧ W (i + 1) m' σ' H') ∧ ∀ x H', (Itl K a).yld i H x H' → g x σ H' fun σ2 H2 => tb { D with nx := N, ct := N, bk := D.nx } σ2 H2) := by
  refine ⟨fun i m σ H => m = xs.length - i ∧ i ≤ xs.length ∧ Pv i σ H, ⟨xs.length, by simp, Nat.zero_le _, h0⟩, ?_⟩
  rintro i m σ H ⟨rfl, hi, p⟩
  have q := hl i σ H hi p
  by_cases hlt : i < xs.length
  · refine .inr ⟨⟨xs, xs[i], q, by simp [hlt]⟩, Pv (i + 1), fun σ' H' p' => ⟨xs.length - (i + 1), by omega, rfl, hlt, p'⟩, fun x H' y => ?_⟩
    obtain ⟨e, y⟩ := y
    subst e
    exact hs i x σ _ (y xs q) p
  · have e : i = xs.length := by omega
    subst e
    exact .inl ⟨⟨xs, q, Nat.le_refl _⟩, hd σ H p⟩
theorem while_by {c : TT} {tb : TS} {D : Ends} {σ : St} {H : Hp} (Pv : St → Hp → Prop) (μ : St → Hp → Nat) (h0 : Pv σ H)
    (hs : ∀ σ H, Pv σ H → c σ H fun b H1 => if b = true then tb { D with nx := fun σ' H' => Pv σ' H' ∧ μ σ' H' < μ σ H, ct := fun σ' H' => Pv σ' H' ∧ μ σ' H' < μ σ H, bk := D.nx } σ H1 else D.nx σ H1)
    (mono : ∀ σ H Q Q', (∀ b H1, Q b H1 → Q' b H1) → c σ H Q → c σ H Q') : tWhile c tb D σ H := by
  refine ⟨fun m σ H => m = μ σ H ∧ Pv σ H, ⟨_, rfl, h0⟩, ?_⟩
  rintro m σ H ⟨rfl, p⟩
  refine mono σ H _ _ (fun b H1 q => ?_) (hs σ H p)
  cases b with
  | true => exact ⟨_, fun σ' H' ⟨p', l⟩ => ⟨_, l, rfl, p'⟩, q⟩
  | false => exact q
end L2

namespace L2
open PySem PySem.Spec PyProof.Rows

noncomputable abbrev R2 := V → V → Hp → VK → Prop
noncomputable def OpR (X : Cx) (f : Value → Value → Sem Value) (r : R2) : Prop :=
  ∀ (pins : List (Addr × Obj)) (s : Shared) (σ : St) (H : Hp) (x y : V) (v u : Value) (Q : VK), Inv X pins σ H s → RelV x v → RelV y u → r x y H Q →
    wpAny (model X.prog X.w) X.A (f v u) (EP X pins σ Q) X.xe s
noncomputable def UnR (X : Cx) (f : Value → Sem Value) (r : V → Hp → VK → Prop) : Prop :=
  ∀ (pins : List (Addr × Obj)) (s : Shared) (σ : St) (H : Hp) (x : V) (v : Value) (Q : VK), Inv X pins σ H s → RelV x v → r x H Q →
    wpAny (model X.prog X.w) X.A (f v) (EP X pins σ Q) X.xe s
noncomputable def CallR (X : Cx) (f : Value) (r : List V → Hp → VK → Prop) : Prop :=
  ∀ (pins : List (Addr × Obj)) (s : Shared) (σ : St) (H : Hp) (xs : List V) (us : List Value) (Q : VK), Inv X pins σ H s → Vals xs us → r xs H Q →
    wpAny (model X.prog X.w) X.A (call f us) (EP X pins σ Q) X.xe s
noncomputable def tOp (r : R2) (ta tb : TE) : TE := fun σ H Q => ta σ H fun x H1 => tb σ H1 fun y H2 => r x y H2 Q
noncomputable def rI (C : Int → Int → Prop) (g : Int → Int → V) : R2 := fun x y H Q => ∃ i j, x = .int i ∧ y = .int j ∧ C i j ∧ Q (g i j) H
noncomputable def rI0 (g : Int → Int → V) : R2 := fun x y H Q => ∃ i j, x = .int i ∧ y = .int j ∧ Q (g i j) H
section
variable {X : Cx} {a b c : Expr} {ta tb tc : TE} {pos : Pos}

theorem binT (ha : PE X a ta) (hb : PE X b tb) {pins : List (Addr × Obj)} {s : Shared} {σ : St} {H : Hp} {R : V → V → Hp → Prop} (I : Inv X pins σ H s)
    (h : ta σ H fun x H1 => tb σ H1 fun y H2 => R x y H2) {Q : Value → Shared → Prop} {f : Value → Value → Sem Value}
    (hf : ∀ v u s2 x y H2, Inv X pins σ H2 s2 → RelV x v → RelV y u → R x y H2 → wpAny (model X.prog X.w) X.A (f v u) Q X.xe s2) :
    wpAny (model X.prog X.w) X.A (eval a X.env) (fun v s₁ => wpAny (model X.prog X.w) X.A (eval b X.env) (fun u s₂ => wpAny (model X.prog X.w) X.A (f v u) Q X.xe s₂) X.xe s₁) X.xe s := by
  refine thn (ha pins s σ H _ I h) fun v s1 ⟨x, H1, I1, r1, q1⟩ => ?_
  refine thn (hb pins s1 σ H1 _ I1 q1) fun u s2 ⟨y, H2, I2, r2, q2⟩ => ?_
  exact hf v u s2 x y H2 I2 r1 r2 q2

theorem pe_op {op : Operator} {r : R2} (ho : OpR X (binaryOp op) r) (ha : PE X a ta) (hb : PE X b tb) : PE X (.BinOp a op b pos) (tOp r ta tb) := by
  intro pins s σ H Q I h
  exact wpAny_BinOp (binT ha hb I h fun v u s2 x y H2 I2 rx ry q => ho pins s2 σ H2 x y v u Q I2 rx ry q)
theorem opI {f : Value → Value → Sem Value} {C : Int → Int → Prop} {g : Int → Int → Int}
    (rule : ∀ (i j : Int) (t u : Tok) (s : Shared) (Q : Value → Shared → Prop) (E : Value → Shared → Prop), C i j → Q (.int (g i j) s.toks) { s with toks := s.toks + 1 } → wpAny (model X.prog X.w) X.A (f (.int i t) (.int j u)) Q E s) :
    OpR X f (rI C fun i j => .int (g i j)) := by
  intro pins s σ H x y v u Q I rx ry h
  obtain ⟨i, j, rfl, rfl, hc, q⟩ := h
  obtain ⟨t, rfl⟩ := rx
  obtain ⟨t', rfl⟩ := ry
  exact rule i j t t' s _ _ hc ⟨.int (g i j), H, I.tok _, ⟨_, rfl⟩, q⟩
theorem opI0 {f : Value → Value → Sem Value} {g : Int → Int → Int}
    (rule : ∀ (i j : Int) (t u : Tok) (s : Shared) (Q : Value → Shared → Prop) (E : Value → Shared → Prop), Q (.int (g i j) s.toks) { s with toks := s.toks + 1 } → wpAny (model X.prog X.w) X.A (f (.int i t) (.int j u)) Q E s) :
    OpR X f (rI0 fun i j => .int (g i j)) := by
  intro pins s σ H x y v u Q I rx ry h
  obtain ⟨i, j, rfl, rfl, q⟩ := h
  obtain ⟨t, rfl⟩ := rx
  obtain ⟨t', rfl⟩ := ry
  exact rule i j t t' s _ _ ⟨.int (g i j), H, I.tok _, ⟨_, rfl⟩, q⟩
theorem opB0 {f : Value → Value → Sem Value} {g : Int → Int → Bool}
    (rule : ∀ (i j : Int) (t u : Tok) (s : Shared) (Q : Value → Shared → Prop) (E : Value → Shared → Prop), Q (.bool (g i j)) s → wpAny (model X.prog X.w) X.A (f (.int i t) (.int j u)) Q E s) :
    OpR X f (rI0 fun i j => .bl (g i j)) := by
  intro pins s σ H x y v u Q I rx ry h
  obtain ⟨i, j, rfl, rfl, q⟩ := h
  obtain ⟨t, rfl⟩ := rx
  obtain ⟨t', rfl⟩ := ry
  exact rule i j t t' s _ _ ⟨.bl (g i j), H, I, rfl, q⟩

noncomputable def CMul (i j : Int) : Prop := (-(2 ^ 64) < i ∧ i < 2 ^ 64) ∨ (-(2 ^ 64) < j ∧ j < 2 ^ 64)
theorem CMul.ok {i j : Int} (h : CMul i j) : IntMulOk i j := by
  rcases h with ⟨h1, h2⟩ | ⟨h1, h2⟩
  · exact .of_left (intBits_le_64 h1 h2)
  · exact .of_right (intBits_le_64 h1 h2)
theorem op_add : OpR X (binaryOp .Add) (rI0 fun i j => .int (i + j)) := opI0 fun _ _ _ _ _ _ _ q => add_int q
theorem op_mod : OpR X (binaryOp .Mod) (rI (fun _ j => 0 < j) fun i j => .int (i % j)) := opI fun i j _ _ _ _ _ hc q => by
  have h1 : (0 : Int) < j := hc
  exact mod_int' (by omega) (by rw [Int.fmod_eq_emod_of_nonneg i (by omega)]; exact q)
end

noncomputable def scal : V → V → Bool
  | .non, .non => true | .non, .int _ => true | .int _, .non => true | .non, .bl _ => true | .bl _, .non => true | .non, .str _ => true | .str _, .non => true
  | .int _, .int _ => true | .bl _, .bl _ => true | .str _, .str _ => true | .byt _, .byt _ => true
  | .int _, .str _ => true | .str _, .int _ => true | .bl _, .str _ => true | .str _, .bl _ => true
  | _, _ => false
noncomputable def rEq : R2 := fun x y H Q => scal x y = true ∧ Q (.bl (decide (x = y))) H
noncomputable def rNe : R2 := fun x y H Q => scal x y = true ∧ Q (.bl (!decide (x = y))) H

theorem dec_int {i j : Int} : decide (V.int i = V.int j) = (i == j) := by
  rw [Bool.eq_iff_iff]
  simp
theorem dec_bl {i j : Bool} : decide (V.bl i = V.bl j) = (i == j) := by
  rw [Bool.eq_iff_iff]
  simp
theorem dec_str {i j : Str} : decide (V.str i = V.str j) = (i == j) := by
  rw [Bool.eq_iff_iff]
  simp
theorem dec_byt {i j : Array UInt8} : decide (V.byt i = V.byt j) = (i.toList == j.toList) := by
  rw [Bool.eq_iff_iff]
  cases i
  cases j
  simp

section
variable {X : Cx} {a b c : Expr} {ta tb tc : TE} {pos : Pos}
theorem fin_bl {pins : List (Addr × Obj)} {σ : St} {H : Hp} {s : Shared} {Q : VK} {k k' : Bool} (I : Inv X pins σ H s) (q : Q (.bl k) H) (e : k = k') : EP X pins σ Q (.bool k') s := by
  subst e
  exact ⟨.bl k, H, I, rfl, q⟩
theorem op_eq : OpR X (compareOp .Eq) rEq := by
  intro pins s σ H x y v u Q I rx ry h
  obtain ⟨hs, q⟩ := h
  cases x with
  | non =>
    cases rx
    cases y with
    | non => cases ry; exact PySem.EqNone.eq_none_none (fin_bl I q (by simp))
    | bl j => cases ry; exact PySem.EqNone.eq_none_bool (fin_bl I q (by simp))
    | int j => obtain ⟨t', rfl⟩ := ry; exact PySem.EqNone.eq_none_int (fin_bl I q (by simp))
    | str j => obtain ⟨t', rfl⟩ := ry; exact PySem.EqNone.eq_none_str (fin_bl I q (by simp))
    | _ => exact absurd (show false = true from hs) Bool.false_ne_true
  | bl i =>
    cases rx
    cases y with
    | non => cases ry; exact PySem.EqNone.eq_bool_none (fin_bl I q (by simp))
    | bl j => cases ry; exact eq_bool (fin_bl I q dec_bl)
    | str j => obtain ⟨t', rfl⟩ := ry; exact PySem.EqMixed.eq_bool_str (fin_bl I q (by simp))
    | _ => exact absurd (show false = true from hs) Bool.false_ne_true
  | int i =>
    obtain ⟨t, rfl⟩ := rx
    cases y with
    | non => cases ry; exact PySem.EqNone.eq_int_none (fin_bl I q (by simp))
    | int j => obtain ⟨t', rfl⟩ := ry; exact eq_int (fin_bl I q dec_int)
    | str j => obtain ⟨t', rfl⟩ := ry; exact PySem.EqMixed.eq_int_str (fin_bl I q (by simp))
    | _ => exact absurd (show false = true from hs) Bool.false_ne_true
  | str i =>
    obtain ⟨t, rfl⟩ := rx
    cases y with
    | non => cases ry; exact PySem.EqNone.eq_str_none (fin_bl I q (by simp))
    | bl j => cases ry; exact PySem.EqMixed.eq_str_bool (fin_bl I q (by simp))
    | int j => obtain ⟨t', rfl⟩ := ry; exact PySem.EqMixed.eq_str_int (fin_bl I q (by simp))
    | str j => obtain ⟨t', rfl⟩ := ry; exact eq_str (fin_bl I q dec_str)
    | _ => exact absurd (show false = true from hs) Bool.false_ne_true
  | byt i =>
    obtain ⟨t, rfl⟩ := rx
    cases y with
    | byt j => obtain ⟨t', rfl⟩ := ry; exact PySem.W.eq_bytes (fin_bl I q dec_byt)
    | _ => exact absurd (show false = true from hs) Bool.false_ne_true
  | _ => cases y <;> exact absurd (show false = true from hs) Bool.false_ne_true
theorem op_ne : OpR X (compareOp .NotEq) rNe := by
  intro pins s σ H x y v u Q I rx ry h
  obtain ⟨hs, q⟩ := h
  cases x with
  | non =>
    cases rx
    cases y with
    | non => cases ry; exact PySem.EqNone.ne_none_none (fin_bl I q (by simp))
    | bl j => cases ry; exact PySem.EqNone.ne_none_bool (fin_bl I q (by simp))
    | int j => obtain ⟨t', rfl⟩ := ry; exact PySem.EqNone.ne_none_int (fin_bl I q (by simp))
    | str j => obtain ⟨t', rfl⟩ := ry; exact PySem.EqNone.ne_none_str (fin_bl I q (by simp))
    | _ => exact absurd (show false = true from hs) Bool.false_ne_true
  | bl i =>
    cases rx
    cases y with
    | non => cases ry; exact PySem.EqNone.ne_bool_none (fin_bl I q (by simp))
    | bl j => cases ry; exact ne_bool (fin_bl I q (congrArg not dec_bl))
    | str j => obtain ⟨t', rfl⟩ := ry; exact PySem.EqMixed.ne_bool_str (fin_bl I q (by simp))
    | _ => exact absurd (show false = true from hs) Bool.false_ne_true
  | int i =>
    obtain ⟨t, rfl⟩ := rx
    cases y with
    | non => cases ry; exact PySem.EqNone.ne_int_none (fin_bl I q (by simp))
    | int j => obtain ⟨t', rfl⟩ := ry; exact ne_int (fin_bl I q (congrArg not dec_int))
    | str j => obtain ⟨t', rfl⟩ := ry; exact PySem.EqMixed.ne_int_str (fin_bl I q (by simp))
    | _ => exact absurd (show false = true from hs) Bool.false_ne_true
  | str i =>
    obtain ⟨t, rfl⟩ := rx
    cases y with
    | non => cases ry; exact PySem.EqNone.ne_str_none (fin_bl I q (by simp))
    | bl j => cases ry; exact PySem.EqMixed.ne_str_bool (fin_bl I q (by simp))
    | int j => obtain ⟨t', rfl⟩ := ry; exact PySem.EqMixed.ne_str_int (fin_bl I q (by simp))
    | str j => obtain ⟨t', rfl⟩ := ry; exact ne_str (fin_bl I q (congrArg not dec_str))
    | _ => exact absurd (show false = true from hs) Bool.false_ne_true
  | byt i =>
    obtain ⟨t, rfl⟩ := rx
    cases y with
    | byt j => obtain ⟨t', rfl⟩ := ry; exact PySem.W.ne_bytes (fin_bl I q (congrArg not dec_byt))
    | _ => exact absurd (show false = true from hs) Bool.false_ne_true
  | _ => cases y <;> exact absurd (show false = true from hs) Bool.false_ne_true

theorem op_lt : OpR X (compareOp .Lt) (rI0 fun i j => .bl (decide (i < j))) := opB0 fun _ _ _ _ _ _ _ q => lt_int q
theorem op_le : OpR X (compareOp .LtE) (rI0 fun i j => .bl (decide (i ≤ j))) := opB0 fun _ _ _ _ _ _ _ q => le_int q
theorem op_gt : OpR X (compareOp .Gt) (rI0 fun i j => .bl (decide (j < i))) := opB0 fun _ _ _ _ _ _ _ q => gt_int q
theorem op_isN : OpR X (compareOp .Is) (fun x y H Q => y = .non ∧ Q (.bl (decide (x = .non))) H) := by
  intro pins s σ H x y v u Q I rx ry h
  obtain ⟨rfl, q⟩ := h
  cases ry
  refine is_none_gen (fin_bl I q ?_)
  cases x <;> first
    | (cases rx; rfl)
    | (obtain ⟨t, rfl⟩ := rx; rfl)
theorem op_notN : OpR X (compareOp .IsNot) (fun x y H Q => y = .non ∧ Q (.bl (!decide (x = .non))) H) := by
  intro pins s σ H x y v u Q I rx ry h
  obtain ⟨rfl, q⟩ := h
  cases ry
  refine isnot_none_gen (fin_bl I q ?_)
  cases x <;> first
    | (cases rx; rfl)
    | (obtain ⟨t, rfl⟩ := rx; rfl)

theorem OpR.or {f : Value → Value → Sem Value} {r r' : R2} (h : OpR X f r) (h' : OpR X f r') : OpR X f (fun x y H Q => r x y H Q ∨ r' x y H Q) := by
  intro pins s σ H x y v u Q I rx ry q
  rcases q with q | q
  · exact h pins s σ H x y v u Q I rx ry q
  · exact h' pins s σ H x y v u Q I rx ry q

theorem nomark (b : Expr) {op : CmpOp} (h : op ≠ .In := by decide) (h2 : op ≠ .NotIn := by decide) : behindInMarks op b = false := by
  have e1 : (op == CmpOp.In) = false := by cases op <;> first | rfl | exact absurd rfl h
  have e2 : (op == CmpOp.NotIn) = false := by cases op <;> first | rfl | exact absurd rfl h2
  cases b <;> simp [behindInMarks, e1, e2]
theorem pe_cmpR {op : CmpOp} {r : R2} (ho : OpR X (compareOp op) r) (ha : PE X a ta) (hb : PE X b tb) (hm : behindInMarks op b = false) : PE X (.Compare a [op] [b] pos) (tOp r ta tb) := by
  intro pins s σ H Q I h
  exact wpAny_Compare1 (binT ha hb I h fun v u s2 x y H2 I2 rx ry q => ho pins s2 σ H2 x y v u Q I2 rx ry q) hm
noncomputable def tTest (t : TE) : TT := fun σ H Q => t σ H fun x H' => ∃ k, x = .bl k ∧ Q k H'
theorem pt_cmpR {op : CmpOp} {r : R2} (ho : OpR X (compareOp op) r) (ha : PE X a ta) (hb : PE X b tb) (hm : behindInMarks op b = false) : PT X (.Compare a [op] [b] pos) (tTest (tOp r ta tb)) := by
  intro pins s σ H Q I h
  refine wpAny_isTrue_Compare1 (thn (ha pins s σ H _ I h) fun v s1 ⟨x, H1, I1, r1, q1⟩ => thn (hb pins s1 σ H1 _ I1 q1) fun u s2 ⟨y, H2, I2, r2, q2⟩ =>
    thn (ho pins s2 σ H2 x y v u _ I2 r1 r2 q2) fun c s3 ⟨z, H3, I3, r3, k, e, q3⟩ => ?_) hm
  subst e
  cases r3
  exact wpAny_truthy_bool ⟨H3, I3, q3⟩
theorem line63 : (sizeLine : Nat) < 2 ^ 63 := by rw [sizeLine_eq]; decide
theorem op_add_str : OpR X (binaryOp .Add) (fun x y H Q => ∃ i j, x = .str i ∧ y = .str j ∧ i.length + j.length ≤ sizeLine ∧ Q (.str (i ++ j)) H) := by
  intro pins s σ H x y v u Q I rx ry h
  obtain ⟨i, j, rfl, rfl, hz, q⟩ := h
  obtain ⟨t, rfl⟩ := rx
  obtain ⟨t', rfl⟩ := ry
  exact add_str (fun t' tk => ⟨.str (i ++ j), H, I.tok _, ⟨_, rfl⟩, q⟩) hz
theorem vals1 {x : V} {us : List Value} (r : Vals [x] us) : ∃ u, us = [u] ∧ RelV x u := by
  cases r with
  | cons r1 r2 => cases r2; exact ⟨_, rfl, r1⟩
theorem vals2 {x y : V} {us : List Value} (r : Vals [x, y] us) : ∃ u w', us = [u, w'] ∧ RelV x u ∧ RelV y w' := by
  cases r with
  | cons r1 r2 =>
    cases r2 with
    | cons r3 r4 => cases r4; exact ⟨_, _, rfl, r1, r3⟩
theorem call_min2 (hc : X.calm = true) : CallR X (.builtin "min") (fun xs H Q => ∃ i j, xs = [.int i, .int j] ∧ Q (.int (if j < i then j else i)) H) := by
  intro pins s σ H xs us Q I r h
  obtain ⟨i, j, rfl, q⟩ := h
  obtain ⟨u, w', rfl, ⟨t, rfl⟩, ⟨t', rfl⟩⟩ := vals2 r
  refine min_two_ints (I.ok.hd hc) fun h' tk k => ⟨_, H, I.kept k, ?_, q⟩
  by_cases hj : j < i
  · rw [if_pos hj, if_pos hj]; exact ⟨_, rfl⟩
  · rw [if_neg hj, if_neg hj]; exact ⟨_, rfl⟩
end
end L2

namespace L2
open PySem PySem.Spec PyProof.Rows

structure ObjM (h : Heap) (x dx C : Addr) (mA : Str → Option Value) : Prop where
  obj : h.get? x = some (PySem.W.instObj C dx)
  ns : h.Ns1 dx mA
  ne : dx ≠ x

theorem lookIn_ns {h : Heap} {dx : Addr} {mA : Str → Option Value} (n : h.Ns1 dx mA) : ∃ od, h.get? dx = some od ∧ ∀ name, PySem.W.lookIn name od = some (mA name) := by
  obtain ⟨o, es, ep, ho, hd, hk, _, hm⟩ := n
  refine ⟨o, ho, fun name => ?_⟩
  have e := hm name
  unfold nsFind findBy at e
  rw [← Array.find?_toList] at e
  unfold PySem.W.lookIn
  rw [hd]
  dsimp only
  split
  · rename_i y q
    rw [q] at e
    exact congrArg some e
  · rename_i q
    rw [q] at e
    have a : es.toList.any (·.refKey) = false := by
      rw [List.any_eq_false]
      intro y hy
      obtain ⟨z, t, hkey⟩ := hk y (Array.mem_toList_iff.mp hy)
      simp [DictEntry.refKey, hkey]
    have a' : ¬ es.toList.any (·.refKey) = true := by rw [a]; exact Bool.false_ne_true
    rw [if_neg a']
    exact congrArg some e

theorem ObjM.look {h : Heap} {x dx C : Addr} {mA : Str → Option Value} (I : ObjM h x dx C mA) : ∃ od, PySem.W.InstAt h x (PySem.W.instObj C dx) C (some od) ∧ ∀ name, PySem.W.lookIn name od = some (mA name) :=
  let ⟨od, ho, hl⟩ := lookIn_ns I.ns
  ⟨od, ⟨I.obj, rfl, rfl, ho⟩, hl⟩

section
variable {prog : Program} {w : World} {A : Around} {E : Value → Shared → Prop} {s : Shared} {K : PySem.W.Frag} {x dx C f : Addr} {mA : Str → Option Value} {name : Str} {v : Value}

end

theorem RelO.none_of {o : Option Value} (r : RelO none o) : o = none := by
  cases o with
  | none => rfl
  | some u => exact (show False from r).elim
section
variable {P : Program} {w : World} {H H' : Hp} {h h' : Heap} {a C dx : Addr} {fs fs' : List (Str × V)}
end

structure Cls (K : PySem.W.Frag) (C : Addr) : Prop where
  pg : PySem.W.plainGet K C Str.empty = true
  hd : PySem.W.hasDictIn K C = true
  po : PySem.W.plainOver K C = true
  sa : PySem.W.findIn K (.ref C) "__setattr__" = some (some (.builtin "object.__setattr__"))
theorem Cls.get {K : PySem.W.Frag} {C : Addr} (c : Cls K C) (f : Str) : PySem.W.plainGet K C f = true := c.pg
section
variable {X : Cx} {pins : List (Addr × Obj)} {σ : St} {H : Hp} {s : Shared} {a C dx : Addr} {fs : List (Str × V)} {f : Str} {v : V} {A : Around} {E : Value → Shared → Prop}

theorem Inv.made (I : Inv X pins σ H s) : Inv X pins σ (upd (upd H s.heap.objs.size (.own (s.heap.objs.size + 1))) (s.heap.objs.size + 1) (.ins C s.heap.objs.size []))
    { s with heap := (s.heap.push PySem.W.emptyDict).push (PySem.W.instObj C s.heap.objs.size) } := by
  have e1 : (s.heap.push PySem.W.emptyDict).get? s.heap.objs.size = some PySem.W.emptyDict := Heap.get?_push_size s.heap rfl
  have e2 : ((s.heap.push PySem.W.emptyDict).push (PySem.W.instObj C s.heap.objs.size)).get? (s.heap.objs.size + 1) = some (PySem.W.instObj C s.heap.objs.size) := by
    have := Heap.get?_push_size (s.heap.push PySem.W.emptyDict) (o := PySem.W.instObj C s.heap.objs.size) rfl
    rwa [Heap.size_push] at this
  have e3 : (s.heap.push PySem.W.emptyDict).Ns s.heap.objs.size (fun _ => none) := ⟨PySem.W.emptyDict, #[], _, e1, rfl, (fun e he => absurd he (by simp)), fun _ => rfl⟩
  have I1 := I.laid (a := s.heap.objs.size) (o := .own (s.heap.objs.size + 1)) (h' := s.heap.push PySem.W.emptyDict) (t' := s.toks) (fun b u q => Heap.get?_push_of_some _ q) (Nat.le_refl _) ⟨_, e1⟩
  refine I1.laid (a := s.heap.objs.size + 1) (o := .ins C s.heap.objs.size []) (t' := s.toks) (fun b u q => Heap.get?_push_of_some _ q) (Nat.le_of_eq (Heap.size_push _ _)) ?_
  have ne : s.heap.objs.size ≠ s.heap.objs.size + 1 := Nat.ne_of_lt (Nat.lt_succ_self _)
  refine ⟨by rw [upd_ne ne, upd_same], Nat.zero_le _, ne, e2, fun _ => none, (Heap.Ns1.of_empty e3).at fun o q => Heap.get?_push_of_some _ q, fun _ => True.intro, fun y hy => absurd rfl hy⟩

end

section
variable {X : Cx} {o e value : Expr} {f : Str} {pos pos' tpos : Pos} {ta tv : TE}
end

section
variable {X : Cx} {pins : List (Addr × Obj)} {σ : St} {H : Hp} {s : Shared} {A : Around} {E : Value → Shared → Prop} {Q : Value → Shared → Prop} {c : Value} {b : Bool}
end
end L2

namespace L2
open PySem PySem.Spec PyProof.Rows

structure Room (k : Nat) (A : Around) : Prop where
  hd : A.handled = none
  dp : A.depth + 3 * k + 5 < recursionLimit
  un : A.units + 16 * k + 200 < cLine
theorem Room.mono {j k : Nat} {A : Around} (r : Room k A) (h : j ≤ k) : Room j A := ⟨r.hd, by have := r.dp; omega, by have := r.un; omega⟩
theorem Room.deeper {k : Nat} {A : Around} (r : Room (k + 1) A) (env : Env) : Room k (A.deeper env) :=
  ⟨r.hd, by have := r.dp; show A.depth + 1 + 3 * k + 5 < _; omega, by have := r.un; show A.units + 3 + 16 * k + 200 < _; omega⟩
theorem Room.in1 {k : Nat} {A : Around} (r : Room (k + 1) A) : Room k A.in1 :=
  ⟨r.hd, by have := r.dp; show A.depth + 3 * k + 5 < _; omega, by have := r.un; show A.units + 1 + 16 * k + 200 < _; omega⟩
theorem make_depth {A : Around} {C : Addr} {us : List Value} {kw : List (Str × Value)} : (A.under (.builtin "type.__call__" ⟨.ref C :: us, kw⟩)).depth = A.depth + 1 := by
  first | rfl | simp [Around.under, Code.weight, Code.isCreation, Code.isGuard, Code.isCaller, Code.frames, Code.isFrame, guardIds]
theorem make_units {A : Around} {C : Addr} {us : List Value} {kw : List (Str × Value)} : (A.under (.builtin "type.__call__" ⟨.ref C :: us, kw⟩)).units = A.units + 1 := by
  first | rfl | simp [Around.under, Code.cUnits, Code.frames, Code.isFrame]
theorem Room.make {k : Nat} {A : Around} (r : Room (k + 1) A) (C : Addr) (us : List Value) (kw : List (Str × Value)) : Room k (A.under (.builtin "type.__call__" ⟨.ref C :: us, kw⟩)) :=
  ⟨r.hd, by have := r.dp; rw [make_depth]; omega, by have := r.un; rw [make_units]; omega⟩
theorem Room.depth {k : Nat} {A : Around} (r : Room k A) : A.depth < recursionLimit := by have := r.dp; omega
theorem Room.units {k : Nat} {A : Around} (r : Room k A) : A.units + 64 < cLine := by have := r.un; omega
noncomputable def tNil : TA := fun _ H Q => Q [] H
noncomputable def tCons (ta : TE) (tr : TA) : TA := fun σ H Q => ta σ H fun x H1 => tr σ H1 fun xs H2 => Q (x :: xs) H2
section
variable {X : Cx} {e : Expr} {es : List Expr} {te : TE} {t : TA} {pos : Pos}
theorem pa_nil : PA X [] tNil := fun _ _ _ _ H Q I h => Calls.spliced_nil ⟨[], H, I, .nil, h⟩
theorem pa_cons (ha : PE X e te) (hr : PA X es t) (hs : starEach (e :: es) X.env = (false, eval e X.env) :: starEach es X.env := by rfl) : PA X (e :: es) (tCons te t) := by
  intro pos pins s σ H Q I h
  rw [hs]
  show wpAny _ _ (spliced ((false, eval e X.env) :: backTo pos (starEach es X.env))) _ _ s
  refine Calls.spliced_cons (thn (ha pins s σ H _ I h) fun u s1 ⟨x, H1, I1, r1, q1⟩ => ?_)
  exact thn (hr pos pins s1 σ H1 _ I1 q1) fun us s2 ⟨xs, H2, I2, r2, q2⟩ => ⟨x :: xs, H2, I2, .cons r1 r2, q2⟩

noncomputable def tTup (t : TA) : TE := fun σ H Q => t σ H fun xs H1 => xs.length ≤ sizeLine ∧ ∀ p, H1 p = none → Q (.ref p) (upd H1 p (.tup xs))
noncomputable def tLst (t : TA) : TE := fun σ H Q => t σ H fun xs H1 => xs.length ≤ sizeLine ∧ ∀ p, H1 p = none → Q (.ref p) (upd H1 p (.lst xs))
theorem pe_tup {x1} (h : PA X es t) : PE X (.Tuple es x1 pos) (tTup t) := by
  intro pins s σ H Q I hq
  refine wpAny_Tuple_spliced (thn (h pos pins s σ H _ I hq) fun us s1 ⟨xs, H1, I1, r, z, q⟩ => ⟨by rw [← r.length]; exact z, ?_⟩)
  have hf : H1 s1.heap.objs.size = none := I1.hok.fresh (Nat.le_refl _)
  refine ⟨.ref s1.heap.objs.size, upd H1 s1.heap.objs.size (.tup xs), I1.laid (t' := s1.toks) (fun b u e => Heap.get?_push_of_some _ e) (Nat.le_refl _) ?_, rfl, q _ hf⟩
  exact ⟨z, us, r, ⟨_, Heap.get?_push_size _ rfl, rfl, _, rfl⟩⟩
theorem pe_lst (h : PA X es t) : PE X (.List es pos) (tLst t) := by
  intro pins s σ H Q I hq
  refine wpAny_List_spliced (thn (h pos pins s σ H _ I hq) fun us s1 ⟨xs, H1, I1, r, z, q⟩ => ⟨by rw [← r.length]; exact z, ?_⟩)
  have hf : H1 s1.heap.objs.size = none := I1.hok.fresh (Nat.le_refl _)
  refine ⟨.ref s1.heap.objs.size, upd H1 s1.heap.objs.size (.lst xs), I1.laid (t' := s1.toks) (fun b u e => Heap.get?_push_of_some _ e) (Nat.le_refl _) ?_, rfl, q _ hf⟩
  exact ⟨z, us, 0, r, Heap.get?_push_size _ rfl⟩
end

noncomputable abbrev Sp := List V → Hp → VK → XK → Prop
noncomputable abbrev CXT := List Env → Hp → Shared → XK → Value → Shared → Prop

structure Env0 (P : Program) (w : World) (K : PySem.W.Frag) (mg : Str → Option Value) (base : Heap) (A : Around) (outer : List Env) (s : Shared) (H : Hp) : Prop where
  frames : A.frames = some outer
  mod : Mod K mg base
  bs : ∀ b o, base.get? b = some o → s.heap.get? b = some o ∧ H b = none
  bsz : base.objs.size ≤ s.heap.objs.size
  funs : s.heap.FunFrames base outer
  frf : ∀ b ∈ frs outer, H b = none
  hok : HOk P w H s.heap
  bare : AllBare s.gens
noncomputable def CE (outer : List Env) (P : Program) (w : World) (H : Hp) (s : Shared) (Q : VK) (u : Value) (s' : Shared) : Prop :=
  ∃ v H', s'.os = s.os ∧ AllBare s'.gens ∧ Un (frs outer) [] H H' s.heap s'.heap ∧ HOk P w H' s'.heap ∧ RelV v u ∧ Q v H'
noncomputable def CR (CX : CXT) (outer : List Env) (P : Program) (w : World) (H : Hp) (s : Shared) (Q : VK) (E : XK) (r : Result) (s' : Shared) : Prop :=
  match r with
  | .ok (.ret u) => CE outer P w H s Q u s'
  | .ok _ => False
  | .error e => CX outer H s E e s'
structure FnOk (P : Program) (w : World) (K : PySem.W.Frag) (mg : Str → Option Value) (base : Heap) (CX : CXT) (k : Nat) (f : Addr) (fd : FuncData) (ps : List Str) (sp : Sp) : Prop where
  len : ∀ vs H Q E, sp vs H Q E → vs.length = ps.length
  run : ∀ (A : Around) (outer : List Env) (s : Shared) (H : Hp) (args : Args) (us : List Value) (vs : List V) (Q : VK) (E : XK), Room k A → Env0 P w K mg base A outer s H → BindsTo s fd args (ps.zip us) → Vals vs us → sp vs H Q E →
    codeAny (model P w) A (.call (.ref f) args) (CR CX outer P w H s Q E) s
theorem FnOk.mono {P : Program} {w : World} {K : PySem.W.Frag} {mg : Str → Option Value} {base : Heap} {CX : CXT} {j k : Nat} {f : Addr} {fd : FuncData} {ps : List Str} {sp : Sp} (F : FnOk P w K mg base CX j f fd ps sp) (h : j ≤ k) :
    FnOk P w K mg base CX k f fd ps sp := ⟨F.len, fun A outer s H args us vs Q E hr => F.run A outer s H args us vs Q E (hr.mono h)⟩
theorem FnOk.imp {P : Program} {w : World} {K : PySem.W.Frag} {mg : Str → Option Value} {base : Heap} {CX : CXT} {k : Nat} {f : Addr} {fd : FuncData} {ps : List Str} {sp sp' : Sp} (F : FnOk P w K mg base CX k f fd ps sp)
    (h : ∀ vs H Q E, sp' vs H Q E → sp vs H Q E) : FnOk P w K mg base CX k f fd ps sp' :=
  ⟨fun vs H Q E q => F.len vs H Q E (h _ _ _ _ q), fun A outer s H args us vs Q E hr he hb hv hs => F.run A outer s H args us vs Q E hr he hb hv (h _ _ _ _ hs)⟩

theorem Env0.make {P : Program} {w : World} {K : PySem.W.Frag} {mg : Str → Option Value} {base : Heap} {A : Around} {outer : List Env} {s : Shared} {H : Hp} (e : Env0 P w K mg base A outer s H) (C : Addr) (us : List Value) (kw : List (Str × Value)) :
    Env0 P w K mg base (A.under (.builtin "type.__call__" ⟨.ref C :: us, kw⟩)) outer s H := ⟨by first | exact e.frames | (simpa [Around.under, Code.envs, Code.isFrame, pushEnvs] using e.frames), e.mod, e.bs, e.bsz, e.funs, e.frf, e.hok, e.bare⟩
section
variable {X : Cx} {pins : List (Addr × Obj)} {σ : St} {H : Hp} {s s' : Shared}
theorem Inv.env0 (I : Inv X pins σ H s) : Env0 X.prog X.w X.K X.mg X.base X.A X.stack s H :=
  ⟨I.ok.frames, I.ok.mod, I.bs, Nat.le_trans I.ok.bsz I.sz, I.stack, I.stkFree, I.hok, I.bare⟩
theorem Inv.after {Q : VK} {u : Value} (I : Inv X pins σ H s) (h : CE X.stack X.prog X.w H s Q u s') : EP X pins σ Q u s' := by
  obtain ⟨v, H', os, bare, un, hok, r, q⟩ := h
  obtain ⟨hh, g, d, t, os'⟩ := s'
  obtain rfl : os' = s.os := os
  exact ⟨v, H', I.call (h' := hh) (g' := g) (d' := d) (t' := t) (ch := []) un hok bare (fun b z => absurd z (by simp)), r, q⟩
end

noncomputable def tCall (sp : Sp) (dvs : List V) (E : XK) (t : TA) : TE := fun σ H Q => t σ H fun vs H1 => sp (vs ++ dvs) H1 Q E
noncomputable def Binds (K : PySem.W.Frag) (fd : FuncData) (ps : List Str) (ds : List Value) : Prop :=
  ∀ (s : Shared) (us : List Value), K.In s.heap → (us ++ ds).length = ps.length → BindsTo s fd ⟨us, []⟩ (ps.zip (us ++ ds))
theorem Binds.all {K : PySem.W.Frag} {fd : FuncData} {ps : List Str} (h : ∀ us : List Value, us.length = ps.length → bindArgs fd ⟨us, []⟩ = pure (ps.zip us)) : Binds K fd ps [] := fun s us _ hl => by
  rw [List.append_nil] at hl ⊢
  exact .of_eq (h us hl)

noncomputable def Passes (CX : CXT) (X : Cx) (E : XK) : Prop := ∀ (pins : List (Addr × Obj)) (σ : St) (H : Hp) (s : Shared) (e : Value) (s' : Shared), Inv X pins σ H s → CX X.stack H s E e s' → X.xe e s'

section
variable {X : Cx} {CX : CXT} {k : Nat} {f C : Addr} {fd : FuncData} {ps : List Str} {sp : Sp} {dvs : List V} {ds : List Value} {E : XK} {x m : Str} {p pos apos : Pos} {e o : Expr} {es : List Expr} {ta : TE} {t : TA}

theorem run_fn {pins : List (Addr × Obj)} {σ : St} {H : Hp} {s : Shared} {Q : VK} {us : List Value} {vs : List V} (F : FnOk X.prog X.w X.K X.mg X.base CX k f fd ps sp) (hr : Room k X.A) (hb : Binds X.K fd ps ds) (hd : Vals dvs ds) (hx : Passes CX X E)
    (I : Inv X pins σ H s) (r : Vals vs us) (h : sp (vs ++ dvs) H Q E) : wpAny (model X.prog X.w) X.A (call (.ref f) us) (EP X pins σ Q) X.xe s := by
  have r2 : Vals (vs ++ dvs) (us ++ ds) := r.append hd
  have hl : (us ++ ds).length = ps.length := by rw [← r2.length]; exact F.len _ _ _ _ h
  refine wpAny_call (codeAny_mono (F.run X.A X.stack s H ⟨us, []⟩ (us ++ ds) (vs ++ dvs) Q E hr I.env0 (hb s us I.kIn hl) r2 h) fun r s' hq => ?_)
  cases r with
  | error e => exact hx pins σ H s e s' I hq
  | ok fl =>
    cases fl with
    | ret u => exact I.after hq
    | next => exact False.elim hq
    | brk => exact False.elim hq
    | cont => exact False.elim hq

theorem pe_call (F : FnOk X.prog X.w X.K X.mg X.base CX k f fd ps sp) (hr : Room k X.A) (hg : Gl X x) (hm : X.mg x = some (.ref f)) (hk : PySem.W.keepIn X.K (.ref f) = true) (hb : Binds X.K fd ps ds) (hd : Vals dvs ds) (hx : Passes CX X E)
    (ha : PA X (e :: es) t) (hdb : (x == ("__debug__" : Str)) = false := by decide) (he : starEach (e :: es) X.env = (false, eval e X.env) :: starEach es X.env := by rfl) (hpl : (backTo pos (starEach es X.env)).any (·.1) = false := by rfl) :
    PE X (.Call (.Name x p) (e :: es) [] pos) (tCall sp dvs E t) := by
  intro pins s σ H Q I h
  refine wpAny_Call_Name_kw (ld_glob I hg hm ?_ hdb)
  refine PySem.W.callWith_K (h₀ := X.base) I.ok.mod.kin hk (thn (ha pos pins s σ H _ I h) fun us s1 ⟨vs, H1, I1, r, q⟩ => ⟨I1.kIn, ?_⟩) he hpl
  exact run_fn F hr hb hd hx I1 r q
end

section
variable {X : Cx} {CX : CXT} {k : Nat} {f C : Addr} {fd : FuncData} {ps ks : List Str} {sp : Sp} {E : XK} {x m : Str} {p pos apos kpos : Pos} {e o : Expr} {es : List Expr} {kws : List Keyword} {te ta : TE} {t tk : TA} {nm : Option Str}
variable {g : List Value → List Value → List Value} {gV : List V → List V → List V}
end

structure FnScope (N P : List Str) (sc : Scope) : Prop where
  kind : sc.kind = .function
  co : sc.isCoroutine = false
  gen : sc.isGenerator = false
  nd : N.Nodup
  pre : N.take P.length = P
  par : ∀ x ∈ P, sc.names.lookup x = some .local ∨ sc.names.lookup x = some .cell
  nofree : ∀ y ∈ sc.names, y.2 ≠ .free

theorem bindL_out {kindOf : Str → Option NameKind} {x : Str} : ∀ {binds : List (Str × Value)} {m : Str → Option Value}, (∀ v, (x, v) ∉ binds) → bindL kindOf binds m x = m x
  | [], _, _ => rfl
  | (n, v) :: r, m, h => by
    unfold bindL
    rw [bindL_out fun w hw => h w (List.mem_cons_of_mem _ hw)]
    split
    · have : x ≠ n := by rintro rfl; exact h v List.mem_cons_self
      simp [this]
    · rfl
theorem bindC_out {kindOf : Str → Option NameKind} {x : Str} : ∀ {binds : List (Str × Value)} {m : Str → Option Value}, (∀ v, (x, v) ∉ binds) → bindC kindOf binds m x = m x
  | [], _, _ => rfl
  | (n, v) :: r, m, h => by
    unfold bindC
    rw [bindC_out fun w hw => h w (List.mem_cons_of_mem _ hw)]
    split
    · rfl
    · have : x ≠ n := by rintro rfl; exact h v List.mem_cons_self
      simp [this]
theorem bindL_get {kindOf : Str → Option NameKind} {x : Str} {v : Value} : ∀ {P : List Str} {vs : List Value} {i : Nat} {m : Str → Option Value}, P.Nodup → P[i]? = some x → vs[i]? = some v → kindOf x = some .local →
    bindL kindOf (P.zip vs) m x = some v
  | [], _, _, _, _, h, _, _ => by simp at h
  | _ :: _, [], _, _, _, _, h, _ => by simp at h
  | p :: P, w :: vs, 0, m, nd, h1, h2, hk => by
    simp at h1 h2; subst h1; subst h2
    show bindL kindOf ((p, w) :: P.zip vs) m p = _
    unfold bindL
    rw [bindL_out fun v hv => (List.nodup_cons.mp nd).1 (List.of_mem_zip hv).1, if_pos hk]
    simp
  | p :: P, w :: vs, i + 1, m, nd, h1, h2, hk => by
    show bindL kindOf ((p, w) :: P.zip vs) m x = _
    unfold bindL
    exact bindL_get (i := i) (List.nodup_cons.mp nd).2 (by simpa using h1) (by simpa using h2) hk
theorem bindC_get {kindOf : Str → Option NameKind} {x : Str} {v : Value} : ∀ {P : List Str} {vs : List Value} {i : Nat} {m : Str → Option Value}, P.Nodup → P[i]? = some x → vs[i]? = some v → kindOf x ≠ some .local →
    bindC kindOf (P.zip vs) m x = some v
  | [], _, _, _, _, h, _, _ => by simp at h
  | _ :: _, [], _, _, _, _, h, _ => by simp at h
  | p :: P, w :: vs, 0, m, nd, h1, h2, hk => by
    simp at h1 h2; subst h1; subst h2
    show bindC kindOf ((p, w) :: P.zip vs) m p = _
    unfold bindC
    rw [bindC_out fun v hv => (List.nodup_cons.mp nd).1 (List.of_mem_zip hv).1, if_neg hk]
    simp
  | p :: P, w :: vs, i + 1, m, nd, h1, h2, hk => by
    show bindC kindOf ((p, w) :: P.zip vs) m x = _
    unfold bindC
    exact bindC_get (i := i) (List.nodup_cons.mp nd).2 (by simpa using h1) (by simpa using h2) hk

noncomputable def start (N : List Str) (vs : List V) : St := vs.map some ++ List.replicate (N.length - vs.length) none

noncomputable def cxOf (CX : CXT) (P : Program) (w : World) (K : PySem.W.Frag) (mg : Str → Option Value) (base : Heap) (N : List Str) (qual : Str) (scope : Scope) (f : Addr) (cd : Value) (A : Around) (outer : List Env) (s : Shared) (H : Hp) (E : XK) : Cx where
  prog := P
  w := w
  K := K
  mg := mg
  base := base
  A := A.deeper (envOfC qual scope s.heap.objs.size f cd)
  N := N
  s₀ := s
  H₀ := H
  env := envOfC qual scope s.heap.objs.size f cd
  outer := outer
  stack := envOfC qual scope s.heap.objs.size f cd :: outer
  ex := []
  calm := true
  fn := fun _ => true
  pn := []
  xe := fun e s' => wpAny (model P w) (A.deeper (envOfC qual scope s.heap.objs.size f cd)) (leaving (envOfC qual scope s.heap.objs.size f cd) e) (fun _ s'' => CX outer H s E e s'') (fun e' s'' => CX outer H s E e' s'') s'

theorem cell_has {sc : Scope} {n : Nat} {x : Str} (h : sc.names.lookup x = some .cell) : ∃ c, (cellsFrom n sc.names []).lookup x = some c := by
  have q := PySem.W.cellsFrom_some sc.names n [] (.inl h)
  exact Option.isSome_iff_exists.mp q

theorem inv_start {CX : CXT} {P : Program} {w : World} {K : PySem.W.Frag} {mg : Str → Option Value} {base : Heap} {N ps : List Str} {qual : Str} {scope : Scope} {f : Addr} {cd : Value} {A : Around} {outer : List Env} {s s1 : Shared} {H : Hp} {E : XK} {us : List Value} {vs : List V}
    (S : FnScope N ps scope) (hd : A.handled = none) (e0 : Env0 P w K mg base A outer s H) (hl : vs.length = ps.length) (r : Vals vs us)
    (x : InCallC s s.heap.objs.size (bindL (envOfC qual scope s.heap.objs.size f cd).kindOf (ps.zip us) fun _ => none) (cellsFrom (s.heap.objs.size + 1) scope.names []) (bindC (envOfC qual scope s.heap.objs.size f cd).kindOf (ps.zip us) fun _ => none) s1) :
    Inv (cxOf CX P w K mg base N qual scope f cd A outer s H E) [] (start N vs) H s1 := by
  have hpl : ps.length ≤ N.length := by have := congrArg List.length S.pre; rw [List.length_take] at this; omega
  obtain ⟨h1, tk, rfl, hk⟩ := x.done
  have noA : ∀ b : Addr, b ∉ (cxOf CX P w K mg base N qual scope f cd A outer s H E).ex := fun b z => absurd (show b ∈ ([] : List Addr) from z) (by simp)
  refine ⟨⟨e0.mod, S.kind, rfl, rfl, Nat.le_refl _, fun y z c h1 h2 => ?_, fun y hy => ?_, fun y c _ h => ?_, fun _ => hd, Around.frames_deeper e0.frames, .inr ⟨rfl, rfl⟩, fun b z => absurd z (noA b), e0.bs, e0.bsz, fun b _ _ => noA b, fun b z => absurd z (noA b), e0.funs, e0.frf⟩,
    rfl, e0.bare, Un.kept hk, ⟨_, x.toInCall.ns, fun i y v h1 h2 h3 => ?_⟩, fun y c h => ⟨_, x.cell y c h⟩, e0.hok.fresh (Nat.le_refl _), fun y c h => ?_, fun p hp => absurd (show p ∈ ([] : List (Addr × Obj)) from hp) (by simp), e0.hok.kept hk, ?_⟩
  · exact name_of_addr x.apart (PySem.mem_of_lookup h1) (PySem.mem_of_lookup h2)
  · have hy : scope.names.lookup y = some .cell ∨ scope.names.lookup y = some .free := hy
    rcases hy with hy | hy
    · exact cell_has hy
    · exact absurd rfl (S.nofree _ (PySem.mem_of_lookup hy))
  · exact Nat.le_of_lt (x.above y c (PySem.mem_of_lookup h))
  · have hi : i < vs.length := by
      unfold start at h2
      by_cases hi : i < vs.length
      · exact hi
      · rw [List.getElem?_append_right (by simpa using hi)] at h2
        rw [List.getElem?_replicate] at h2
        split at h2 <;> cases h2
    have ha : vs[i]? = some v := by
      unfold start at h2
      rw [List.getElem?_append_left (by simpa using hi), List.getElem?_map] at h2
      cases e : vs[i]? with
      | none => rw [e] at h2; cases h2
      | some a => rw [e] at h2; cases h2; rfl
    obtain ⟨u, hu, rv⟩ := r.get ha
    have hp : ps[i]? = some y := by
      rw [← S.pre, List.getElem?_take_of_lt (by omega)]; exact h1
    have ndP : ps.Nodup := by rw [← S.pre]; exact S.nd.sublist (List.take_sublist _ _)
    refine ⟨u, rv, ?_⟩
    rcases S.par y (List.mem_of_getElem? hp) with k | k
    · exact .inl ⟨k, bindL_get ndP hp hu k⟩
    · obtain ⟨c, e⟩ := cell_has (n := s.heap.objs.size + 1) k
      refine .inr ⟨.inl k, c, e, ?_⟩
      have q := x.cell y c e
      rw [bindC_get ndP hp hu (by show scope.names.lookup y ≠ _; rw [k]; decide)] at q
      exact q
  · exact e0.hok.fresh (Nat.le_of_lt (x.above y c (PySem.mem_of_lookup h)))
  · unfold start
    show _ = N.length
    rw [List.length_append, List.length_map, List.length_replicate]
    omega

theorem fn_of {CX : CXT} {P : Program} {w : World} {K : PySem.W.Frag} {mg : Str → Option Value} {base : Heap} {k : Nat} {f : Addr} {name qual : Str} {params : Arguments} {body : List Stmt} {scope : Scope} {dV kV doc pm cdv ct oc : Value} {an od : Option Addr}
    {osl : Array (Option Value)} {N ps : List Str} {sp : Sp} (lk : K.lookup f = some ⟨oc, od, .func (PySem.W.fnOf name qual params body scope dV kV doc pm an cdv ct), osl⟩) (hcd : PySem.W.codeIn K cdv qual = true) (S : FnScope N ps scope)
    (len : ∀ vs H Q E, sp vs H Q E → vs.length = ps.length)
    (hbody : ∀ (A : Around) (outer : List Env) (s : Shared) (H : Hp) (vs : List V) (Q : VK) (E : XK), Room k (A.deeper (envOfC qual scope s.heap.objs.size f cdv)) → sp vs H Q E →
      ∃ t, PSs (cxOf CX P w K mg base N qual scope f cdv A outer s H E) body t ∧ t { nx := fun _ H' => Q .non H', rt := Q } (start N vs) H) :
    FnOk P w K mg base CX (k + 1) f (PySem.W.fnOf name qual params body scope dV kV doc pm an cdv ct) ps sp := by
  refine ⟨len, fun A outer s H args us vs Q E hr e0 hb r hsp => ?_⟩
  have hl := len _ _ _ _ hsp
  have KX : K.In s.heap := e0.mod.kin.keeps fun b o e => (e0.bs b o e).1
  have lim : s.heap.NoLimit := e0.mod.nolimit.keeps fun b o e => (e0.bs b o e).1
  have hkind : ∀ y ∈ ps.zip us, scope.names.lookup y.1 = some .local ∨ (scope.names.lookup y.1 = some .cell ∧ ((cellsFrom (s.heap.objs.size + 1) scope.names []).lookup y.1).isSome = true) := fun ⟨n, v⟩ hy => by
    rcases S.par n (List.of_mem_zip hy).1 with q | q
    · exact .inl q
    · exact .inr ⟨q, PySem.W.cellsFrom_some _ _ _ (.inl q)⟩
  refine codeAny_call_function hr.depth (KX _ _ lk) rfl S.co S.gen rfl (PySem.W.codeRec_of KX hcd) (hb _ _ _ _ ?_)
  refine wpAny_newFunctionEnv_cells S.kind hkind fun env he s1 x => ?_
  subst he
  refine ⟨lim.keeps x.toInCall.keep, codeAny_func ?_⟩
  obtain ⟨t, ht, hq⟩ := hbody A outer s H vs Q E (hr.deeper _) hsp
  have I : Inv (cxOf CX P w K mg base N qual scope f cdv A outer s H E) [] (start N vs) H s1 := inv_start S hr.hd e0 hl r x
  refine wpAny_mono (ht [] s1 (start N vs) H _ I hq) (fun fl s' hs => ?_) fun e s' hs => hs
  have fin : ∀ {σ' : St} {H' : Hp} {v : V} {u : Value}, Inv (cxOf CX P w K mg base N qual scope f cdv A outer s H E) [] σ' H' s' → RelV v u → Q v H' → CE outer P w H s Q u s' :=
    fun {σ' H' v u} J rv q => ⟨v, H', J.os, J.bare, J.base, J.hok, rv, q⟩
  cases fl with
  | ret u =>
    obtain ⟨v, σ', H', J, rv, q⟩ := hs
    exact fin J rv q
  | next =>
    obtain ⟨σ', H', J, q⟩ := hs
    exact fin (v := V.non) (u := Value.none) J rfl q
  | brk =>
    obtain ⟨_, _, _, q⟩ := hs
    exact False.elim q
  | cont =>
    obtain ⟨_, _, _, q⟩ := hs
    exact False.elim q
end L2

namespace L2
open PySem PySem.Spec PyProof.Rows
section
variable {X : Cx} {x : Str} {p pos : Pos} {e : Expr} {es : List Expr} {t : TA} {id T : String} {r : List V → Hp → VK → Prop}

noncomputable def tCB (r : List V → Hp → VK → Prop) (t : TA) : TE := fun σ H Q => t σ H fun vs H1 => r vs H1 Q
theorem pe_callB (hc : CallR X (.builtin id) r) (hg : Gl X x) (hm : X.mg x = none) (hv : bootBuiltins x = some (.builtin id)) (ha : PA X (e :: es) t) (hn : x ≠ "__name__" := by decide) (hdb : (x == ("__debug__" : Str)) = false := by decide)
    (he : starEach (e :: es) X.env = (false, eval e X.env) :: starEach es X.env := by rfl) (hpl : (backTo pos (starEach es X.env)).any (·.1) = false := by rfl) : PE X (.Call (.Name x p) (e :: es) [] pos) (tCB r t) := by
  intro pins s σ H Q I h
  refine wpAny_Call_Name_kw (ld_blt I hg hm hv ?_ hn hdb)
  exact PyProof.Rows.callWith_builtin1 (thn (ha pos pins s σ H _ I h) fun us s1 ⟨vs, H1, I1, r1, q1⟩ => hc pins s1 σ H1 vs us Q I1 r1 q1) he hpl
theorem pe_callTy (hc : CallR X (.type T) r) (hg : Gl X x) (hm : X.mg x = none) (hv : bootBuiltins x = some (.type T)) (ha : PA X (e :: es) t) (hn : x ≠ "__name__" := by decide) (hdb : (x == ("__debug__" : Str)) = false := by decide)
    (he : starEach (e :: es) X.env = (false, eval e X.env) :: starEach es X.env := by rfl) (hpl : (backTo pos (starEach es X.env)).any (·.1) = false := by rfl) : PE X (.Call (.Name x p) (e :: es) [] pos) (tCB r t) := by
  intro pins s σ H Q I h
  refine wpAny_Call_Name_kw (ld_blt I hg hm hv ?_ hn hdb)
  exact PyProof.Rows.callWith_type1 (thn (ha pos pins s σ H _ I h) fun us s1 ⟨vs, H1, I1, r1, q1⟩ => hc pins s1 σ H1 vs us Q I1 r1 q1) he hpl
end
end L2

namespace HT
open PySem PyProof.Rows

noncomputable def lexLt : List Int → List Int → Bool
  | [], [] => false
  | [], _ :: _ => true
  | _ :: _, [] => false
  | x :: xs, y :: ys => if x = y then lexLt xs ys else decide (x < y)
theorem lexLt_cons (x y : Int) (xs ys : List Int) : lexLt (x :: xs) (y :: ys) = if x = y then lexLt xs ys else decide (x < y) := rfl
theorem lexLt_nil_nil : lexLt [] [] = false := rfl
theorem lexLt_nil_cons (y : Int) (ys : List Int) : lexLt [] (y :: ys) = true := rfl
theorem lexLt_cons_nil (x : Int) (xs : List Int) : lexLt (x :: xs) [] = false := rfl

theorem eqAt_int (A : Around) (s : Shared) (a : Int) (t : Tok) (c : Int) (u : Tok) : ∃ e, SeqAt.EqAt A s (.int a t) (.int c u) e ∧ (e = true ↔ a = c) :=
  ⟨(a == c), SeqAt.EqAt.int_int a t c u, by simp⟩
theorem rcLt_int (A : Around) (s : Shared) (a : Int) (t : Tok) (c : Int) (u : Tok) (prog : Program) (w : World) (E : Value → Shared → Prop) (Q : Value → Shared → Prop) (h : Q (.bool (decide (a < c))) s) :
    wpAny (model prog w) A (richCompare .Lt (.int a t) (.int c u)) Q E s :=
  (PyProof.Rows.lt_int h : wpAny (model prog w) A (compareOp .Lt (.int a t) (.int c u)) Q E s)

section
open PySem.SeqAt
open PySem.AutoSeq1 (wpAny_loadPart')
open PySem.MeetsSeq PySem.MeetsSeq2 PySem.MeetsSeq3

theorem tuple_lt_ints (l b : Addr) (items items2 : Array Value) (n n2 : Nat) (dd dd2 : Option Addr) (sl sl2 : Array (Option Value)) (ns ms : List Int) (hi : IntsAre items.toList ns) (hj : IntsAre items2.toList ms) :
    Meets (Builtin.«tuple.__lt__» ⟨[.ref l, .ref b], []⟩)
      (fun _ R s => s.heap.get? l = some { cls := .type "tuple", dict := dd, data := .seq items n, slots := sl } ∧ s.heap.get? b = some { cls := .type "tuple", dict := dd2, data := .seq items2 n2, slots := sl2 } ∧
        R (.ok (.ret (.bool (lexLt ns ms)))) s) :=
  .of_wp fun prog w A R s h => by
    obtain ⟨hp, g, d, tk, os⟩ := s; obtain ⟨hl, hb, h⟩ := h
    have f2 := AutoSeq1.sub_tuple_tuple
    have z1 : items.size = ns.length := by rw [← hi.length]; simp
    have z2 : items2.size = ms.length := by rw [← hj.length]; simp
    wp_walk using wpAny_loadPart' hl, wpAny_loadPart' hb, wpAny_forIn_list _ (fun rest b s' => b.1 = none ∧ s' = ⟨hp, g, d, tk, os⟩ ∧ ∃ (vs ws : List Value) (ns' ms' : List Int), rest = vs.zip ws ∧
      IntsAre vs ns' ∧ IntsAre ws ms' ∧ ns'.length + items2.size = ms'.length + items.size ∧ R (.ok (.ret (.bool (lexLt ns' ms')))) ⟨hp, g, d, tk, os⟩) _
    case turn =>
      rintro ⟨y, x⟩ rest b s' ⟨hb', rfl, vs, ws, ns', ms', hz, hvi, hwi, hlen, hR⟩
      cases hvi with
      | nil => rw [List.zip_nil_left] at hz; cases hz
      | cons a t hvi' =>
        cases hwi with
        | nil => rw [List.zip_nil_right] at hz; cases hz
        | cons c u hwi' =>
          rw [List.zip_cons_cons] at hz
          injection hz with hyx hrest
          injection hyx with hy hx
          subst hy hx
          rw [lexLt_cons] at hR
          simp only [List.length_cons] at hlen
          obtain ⟨e, he, hiff⟩ := eqAt_int A.in1 ⟨hp, g, d, tk, os⟩ a t c u
          refine wpAny_bind (he prog w _ _ ?_)
          cases e with
          | true =>
            rw [if_pos (hiff.mp rfl)] at hR
            wp_walk
            exact ⟨rfl, rfl, _, _, _, _, hrest, hvi', hwi', by omega, hR⟩
          | false =>
            rw [if_neg (fun q => absurd (hiff.mpr q) Bool.false_ne_true)] at hR
            have hri := rcLt_int A.in1 ⟨hp, g, d, tk, os⟩ a t c u prog w
            wp_walk using hri
            exact ⟨_, rfl, by simpa using hR⟩
    case fin =>
      rintro ⟨b1, b2⟩ s' ⟨hb', rfl, vs, ws, ns', ms', hz, hvi, hwi, hlen, hR⟩
      simp only at hb'
      subst hb'
      have hv : lexLt ns' ms' = decide (items.size < items2.size) := by
        cases hvi with
        | nil =>
          cases hwi with
          | nil =>
            simp only [List.length_nil] at hlen
            rw [lexLt_nil_nil]
            exact (decide_eq_false (by omega)).symm
          | cons c u hw =>
            simp only [List.length_nil, List.length_cons] at hlen
            rw [lexLt_nil_cons]
            exact (decide_eq_true (by omega)).symm
        | cons a t hv =>
          cases hwi with
          | nil =>
            simp only [List.length_nil, List.length_cons] at hlen
            rw [lexLt_cons_nil]
            exact (decide_eq_false (by omega)).symm
          | cons c u hw =>
            rw [List.zip_cons_cons] at hz
            cases hz
      rw [hv] at hR
      wp_walk
      exact ⟨_, rfl, by simpa [Builtin.Tuple.tupleCompareSizes] using hR⟩
    case h =>
      exact ⟨rfl, rfl, items.toList, items2.toList, ns, ms, rfl, hi, hj, by omega, h⟩
end

section
variable {prog : Program} {w : World} {A : Around} {E : Value → Shared → Prop} {s : Shared}

theorem lt_tupInts {l b : Addr} {items items2 : Array Value} {ns ms : List Int} {Q : Value → Shared → Prop} (hl : IsTup s.heap l items) (hb : IsTup s.heap b items2) (hi : IntsAre items.toList ns) (hj : IntsAre items2.toList ms)
    (hu : A.units < cLine) (h : Q (.bool (lexLt ns ms)) s) : wpAny (model prog w) A (compareOp .Lt (.ref l) (.ref b)) Q E s := by
  obtain ⟨⟨cls, dd, data, sl⟩, ho, hc, n, hd⟩ := id hl
  obtain ⟨⟨cls2, dd2, data2, sl2⟩, ho2, hc2, n2, hd2⟩ := id hb
  simp only at hc hd hc2 hd2
  subst hc hd hc2 hd2
  exact richCompare_meets_room (op := .Lt) ⟨_, ho, rfl⟩ ⟨_, ho2, rfl⟩ PySem.F.slot_tuple_lt PySem.F.entry_tuple_lt (PySem.F.args_tuple_lt_2 _ _) (tuple_lt_ints l b items items2 n n2 dd dd2 sl sl2 ns ms hi hj)
    ⟨ho, ho2, show Value.bool (lexLt ns ms) ≠ Value.notImplemented ∧ Q (.bool (lexLt ns ms)) s from ⟨(fun x => nomatch x), h⟩⟩ hu

end
end HT

namespace L2
open PySem PySem.Spec PyProof.Rows

noncomputable abbrev TO := St → Hp → (Option Int → Hp → Prop) → Prop
noncomputable def PO (X : Cx) (e : Option Expr) (t : TO) : Prop :=
  ∀ (pins : List (Addr × Obj)) (s : Shared) (σ : St) (H : Hp) (Q : Option Int → Hp → Prop), Inv X pins σ H s → t σ H Q →
    wpAny (model X.prog X.w) X.A (evalPart e X.env) (fun u s' => ∃ o H', Inv X pins σ H' s' ∧ IsPart u o ∧ Q o H') X.xe s
theorem intsAre_of {ns : List Int} : ∀ {us : List Value}, Vals (ns.map V.int) us → IntsAre us ns := by
  induction ns with
  | nil => intro us r; rw [List.map_nil] at r; cases r; exact .nil
  | cons n ns ih =>
    intro us r
    rw [List.map_cons] at r
    cases r with
    | cons r1 r2 =>
      obtain ⟨t, e⟩ := r1
      subst e
      exact .cons n t (ih r2)

section
variable {X : Cx} {e : Expr} {te : TE} {lo hi : Option Expr} {tl th : TO} {pos p2 : Pos}

noncomputable def SlR (X : Cx) (r : V → Option Int → Option Int → Hp → VK → Prop) : Prop :=
  ∀ (pins : List (Addr × Obj)) (s : Shared) (σ : St) (H : Hp) (x : V) (v vl vu : Value) (lo hi : Option Int) (sl : Addr) (Q : VK), Inv X pins σ H s → RelV x v → s.heap.IsSliceOf sl vl vu .none → IsPart vl lo → IsPart vu hi → r x lo hi H Q →
    ∃ T id, typeLookup (.type T) "__getitem__" = pure (some (.builtin id)) ∧ s.TypeIs v T ∧ wpAny (model X.prog X.w) X.A (getItem v (.ref sl)) (EP X pins σ Q) X.xe s
theorem SlR.or {r r' : V → Option Int → Option Int → Hp → VK → Prop} (h : SlR X r) (h' : SlR X r') : SlR X (fun x lo hi H Q => r x lo hi H Q ∨ r' x lo hi H Q) := by
  intro pins s σ H x v vl vu lo hi sl Q I rx hs pl pu q
  rcases q with q | q
  · exact h pins s σ H x v vl vu lo hi sl Q I rx hs pl pu q
  · exact h' pins s σ H x v vl vu lo hi sl Q I rx hs pl pu q
noncomputable def rLtT (K : PySem.W.Frag) : R2 := fun x y H Q => ∃ a b ns ms, x = .ref a ∧ y = .ref b ∧ SqT K H a (ns.map V.int) ∧ SqT K H b (ms.map V.int) ∧ Q (.bl (HT.lexLt ns ms)) H
theorem op_ltT (hu : X.A.units < cLine) : OpR X (compareOp .Lt) (rLtT X.K) := by
  intro pins s σ H x y v u Q I rx ry h
  obtain ⟨a, b, ns, ms, rfl, rfl, ha, hb, q⟩ := h
  cases rx
  cases ry
  obtain ⟨its, r1, p1, _⟩ := I.tuple ha
  obtain ⟨its2, r2, p2, _⟩ := I.tuple hb
  have i1 : IntsAre its.toArray.toList ns := intsAre_of r1
  have i2 : IntsAre its2.toArray.toList ms := intsAre_of r2
  exact HT.lt_tupInts p1 p2 i1 i2 hu ⟨.bl (HT.lexLt ns ms), H, I, rfl, q⟩
end
end L2

namespace L2
open PySem PySem.Spec PyProof.Rows

noncomputable def ixN (n : Nat) (i : Int) : Option Nat := if 0 ≤ i then (if i < n then some i.toNat else none) else if -(n : Int) ≤ i then some (i + n).toNat else none
noncomputable def atI {α : Type} (xs : List α) (i : Int) : Option α := (ixN xs.length i).bind fun j => xs[j]?
theorem ixN_seq {n : Nat} {i : Int} {j : Nat} (h : ixN n i = some j) : seqIndex? i n = some j ∧ j < n ∧ -(n : Int) ≤ i ∧ i < n := by
  unfold ixN at h
  by_cases h0 : 0 ≤ i
  · rw [if_pos h0] at h
    by_cases h1 : i < n
    · rw [if_pos h1] at h
      have e : i.toNat = j := Option.some.inj h
      exact ⟨by rw [seqIndex_of h0 h1, e], by omega, by omega, h1⟩
    · rw [if_neg h1] at h; cases h
  · rw [if_neg h0] at h
    by_cases h1 : -(n : Int) ≤ i
    · rw [if_pos h1] at h
      have e : (i + n).toNat = j := Option.some.inj h
      exact ⟨by rw [seqIndex_neg (by omega) h1, e], by omega, h1, by omega⟩
    · rw [if_neg h1] at h; cases h
theorem atI_get {α : Type} {xs : List α} {i : Int} {v : α} (h : atI xs i = some v) : ∃ j, seqIndex? i xs.length = some j ∧ xs[j]? = some v ∧ j < xs.length ∧ -(xs.length : Int) ≤ i ∧ i < xs.length := by
  unfold atI at h
  cases e : ixN xs.length i with
  | none => rw [e] at h; cases h
  | some j =>
    rw [e] at h
    obtain ⟨h1, h2, h3, h4⟩ := ixN_seq e
    exact ⟨j, h1, h, h2, h3, h4⟩
theorem atI_nat {α : Type} {xs : List α} {j : Nat} {v : α} (h : xs[j]? = some v) : atI xs (j : Int) = some v := by
  have hj : j < xs.length := (List.getElem?_eq_some_iff.mp h).1
  have e : ixN xs.length (j : Int) = some j := by
    unfold ixN
    rw [if_pos (by omega), if_pos (by omega)]; simp
  unfold atI; rw [e]; exact h
noncomputable def PlainIx (b : Expr) : Prop := ∀ o i, subscripted b false o i = operate [o, i] (getItem o i)
noncomputable def IxR (X : Cx) (r : R2) : Prop :=
  ∀ (value slice : Expr) (pins : List (Addr × Obj)) (s : Shared) (σ : St) (H : Hp) (x y : V) (v u : Value) (Q : VK), Inv X pins σ H s → RelV x v → RelV y u → r x y H Q →
    subscripted slice false v u = operate [v, u] (getItem v u) → wpAny (model X.prog X.w) X.A (subscriptTail value slice v u) (EP X pins σ Q) X.xe s
noncomputable def MtR (X : Cx) (id : String) (r : V → List V → Hp → VK → Prop) : Prop :=
  ∀ (pins : List (Addr × Obj)) (s : Shared) (σ : St) (H : Hp) (x : V) (xs : List V) (v : Value) (us : List Value) (Q : VK), Inv X pins σ H s → RelV x v → Vals xs us → r x xs H Q →
    wpAny (model X.prog X.w) X.A (call (.builtin id) (v :: us)) (EP X pins σ Q) X.xe s
section
variable {X : Cx} {a b : Expr} {ta tb : TE} {pos : Pos}
theorem IxR.or {r r' : R2} (h : IxR X r) (h' : IxR X r') : IxR X (fun x y H Q => r x y H Q ∨ r' x y H Q) := by
  intro value slice pins s σ H x y v u Q I rx ry q hs
  rcases q with q | q
  · exact h value slice pins s σ H x y v u Q I rx ry q hs
  · exact h' value slice pins s σ H x y v u Q I rx ry q hs
theorem MtR.or {id : String} {r r' : V → List V → Hp → VK → Prop} (h : MtR X id r) (h' : MtR X id r') : MtR X id (fun x xs H Q => r x xs H Q ∨ r' x xs H Q) := by
  intro pins s σ H x xs v us Q I rx rs q
  rcases q with q | q
  · exact h pins s σ H x xs v us Q I rx rs q
  · exact h' pins s σ H x xs v us Q I rx rs q
theorem pe_ix {r : R2} (hr : IxR X r) (ha : PE X a ta) (hb : PE X b tb) (hs : PlainIx b) : PE X (.Subscript a b pos) (tOp r ta tb) := by
  intro pins s σ H Q I h
  exact Subscript_ (binT ha hb I h fun v u s2 x y H2 I2 rx ry q => hr a b pins s2 σ H2 x y v u Q I2 rx ry q (hs _ _))

noncomputable def rIxL (K : PySem.W.Frag) : R2 := fun x y H Q => ∃ p xs i v, x = .ref p ∧ y = .int i ∧ SqL K H p xs ∧ atI xs i = some v ∧ Q v H
noncomputable def rIxT (K : PySem.W.Frag) : R2 := fun x y H Q => ∃ p xs i v, x = .ref p ∧ y = .int i ∧ SqT K H p xs ∧ atI xs i = some v ∧ Q v H
noncomputable def rIxS : R2 := fun x y H Q => ∃ z i c, x = .str z ∧ y = .int i ∧ z.length ≤ sizeLine ∧ atI z.cps.toList i = some c ∧ Q (.str ⟨#[c]⟩) H
theorem ix_list : IxR X (rIxL X.K) := by
  intro value slice pins s σ H x y v u Q I rx ry h hs
  obtain ⟨p, xs, i, z, rfl, rfl, hq, he, q⟩ := h
  cases rx
  obtain ⟨t, rfl⟩ := ry
  obtain ⟨its, r, pl, hz⟩ := I.list hq
  obtain ⟨j, h1, h2, h3, h4, h5⟩ := atI_get he
  obtain ⟨w, ew, rw'⟩ := r.get h2
  have hl := r.length
  have hn := line63
  have fin : EP X pins σ Q w s := ⟨z, H, I, rw', q⟩
  by_cases h0 : 0 ≤ i
  · have hj : i.toNat = j := by
      rw [seqIndex_of h0 h5] at h1
      exact Option.some.inj h1
    exact item_listR pl.isList h0 (by omega) (by rw [hj]; simpa using ew) fin hs
  · have hj : (i + (its.toArray.size : Int)).toNat = j := by
      rw [seqIndex_neg (by omega) h4] at h1
      rw [List.size_toArray, ← hl]
      exact Option.some.inj h1
    exact subscriptTail_builtinR (x := w) pl.isList.typeIs slot_list_getitem.lookup
      (wpAny_getItem_list_neg (Q := fun r s' => r = w ∧ EP X pins σ Q r s') pl.isList (by omega) (by rw [List.size_toArray] <;> omega) (by omega) (by rw [hj]; simpa using ew) ⟨rfl, fin⟩) hs
theorem ix_tup : IxR X (rIxT X.K) := by
  intro value slice pins s σ H x y v u Q I rx ry h hs
  obtain ⟨p, xs, i, z, rfl, rfl, hq, he, q⟩ := h
  cases rx
  obtain ⟨t, rfl⟩ := ry
  obtain ⟨its, r, pl, hz⟩ := I.tuple hq
  obtain ⟨j, h1, h2, h3, h4, h5⟩ := atI_get he
  obtain ⟨w, ew, rw'⟩ := r.get h2
  have hl := r.length
  have hn := line63
  have fin : EP X pins σ Q w s := ⟨z, H, I, rw', q⟩
  exact subscriptTail_builtinR (x := w) pl.typeIs slot_tuple_getitem.lookup
    (getItem_tuple (j := j) (Q := fun r s' => r = w ∧ EP X pins σ Q r s') pl (by omega) (by omega) (by rw [List.size_toArray, ← hl]; exact h1) (by simpa using ew) ⟨rfl, fin⟩) hs
theorem ix_str : IxR X rIxS := by
  intro value slice pins s σ H x y v u Q I rx ry h hs
  obtain ⟨z, i, c, rfl, rfl, hz, he, q⟩ := h
  obtain ⟨t, rfl⟩ := rx
  obtain ⟨t', rfl⟩ := ry
  obtain ⟨j, h1, h2, h3, h4, h5⟩ := atI_get he
  have hl : z.cps.toList.length = z.length := by simp [Str.length]
  rw [hl] at h1 h4 h5
  have hn := line63
  exact tail_any (typeIs_str s z t) slot_str_getitem.lookup (getItem_str (c := c) (by
    have e1 : decide (i < -(2 ^ 63 : Int)) = false := decide_eq_false (by omega)
    have e2 : decide (i ≥ 2 ^ 63) = false := decide_eq_false (by omega)
    rw [e1, e2, Bool.or_false]) (by rw [h1]; simpa using h2) ⟨.str ⟨#[c]⟩, H, I.tok _, ⟨_, rfl⟩, q⟩) hs
noncomputable def rIx (K : PySem.W.Frag) : R2 := fun x y H Q => rIxL K x y H Q ∨ rIxT K x y H Q ∨ rIxS x y H Q
theorem ix_seq : IxR X (rIx X.K) := ix_list.or (ix_tup.or ix_str)

theorem Inv.lst {pins : List (Addr × Obj)} {σ : St} {H : Hp} {s : Shared} {p : Addr} {xs : List V} (I : Inv X pins σ H s) (h : H p = some (.lst xs)) :
    ∃ (its : List Value) (n : Nat), Vals xs its ∧ s.heap.get? p = some { cls := .type "list", data := .seq its.toArray n } ∧ xs.length ≤ sizeLine := by
  obtain ⟨z, its, n, r, e⟩ := I.hok p _ h
  exact ⟨its, n, r, e, z⟩
theorem call_len_seq : CallR X (.builtin "len") (fun xs H Q => ∃ p ys, xs = [.ref p] ∧ (SqL X.K H p ys ∨ SqT X.K H p ys) ∧ Q (.int ys.length) H) := by
  intro pins s σ H xs us Q I r h
  obtain ⟨p, ys, rfl, hq, q⟩ := h
  obtain ⟨u, rfl, rx⟩ := vals1 r
  cases rx
  have hn := line63
  rcases hq with hq | hq
  · obtain ⟨its, r', pl, hz⟩ := I.list hq
    have hlen := r'.length
    exact Calls.call_len_list pl.isList (by simp only [List.size_toArray] <;> omega) ⟨.int ys.length, H, I.tok _, ⟨s.toks + 1, by rw [List.size_toArray, hlen]⟩, q⟩
  · obtain ⟨its, r', pl, hz⟩ := I.tuple hq
    have hlen := r'.length
    exact len_tuple pl (by simp only [List.size_toArray] <;> omega) ⟨.int ys.length, H, I.tok _, ⟨s.toks + 1, by rw [List.size_toArray, hlen]⟩, q⟩
theorem call_len_str : CallR X (.builtin "len") (fun xs H Q => ∃ z, xs = [.str z] ∧ z.length ≤ sizeLine ∧ Q (.int z.length) H) := by
  intro pins s σ H xs us Q I r h
  obtain ⟨z, rfl, hz, q⟩ := h
  obtain ⟨u, rfl, t, rfl⟩ := vals1 r
  have hn := line63
  exact len_str (by omega) ⟨.int z.length, H, I.tok _, ⟨_, rfl⟩, q⟩
theorem CallR.or {f : Value} {r r' : List V → Hp → VK → Prop} (h : CallR X f r) (h' : CallR X f r') : CallR X f (fun xs H Q => r xs H Q ∨ r' xs H Q) := by
  intro pins s σ H xs us Q I rs q
  rcases q with q | q
  · exact h pins s σ H xs us Q I rs q
  · exact h' pins s σ H xs us Q I rs q
theorem call_list_of : CallR X (.type "list") (fun xs H Q => ∃ p ys, xs = [.ref p] ∧ (SqL X.K H p ys ∨ SqT X.K H p ys) ∧ ∀ l, H l = none → Q (.ref l) (upd H l (.lst ys))) := by
  intro pins s σ H xs us Q I r h
  obtain ⟨p, ys, rfl, hq, q⟩ := h
  obtain ⟨u, rfl, rx⟩ := vals1 r
  cases rx
  have fin : ∀ (its : List Value), Vals ys its → ys.length ≤ sizeLine → ∀ (h' : Heap) (c' : Nat), (∀ b o', s.heap.get? b = some o' → h'.get? b = some o') →
      h'.get? s.heap.objs.size = some { cls := .type "list", dict := none, data := .seq its.toArray c', slots := #[] } → EP X pins σ Q (.ref s.heap.objs.size) { s with heap := h' } := fun its r' hz h' c' kp e =>
    ⟨.ref s.heap.objs.size, _, I.laid (t' := s.toks) kp (Nat.le_refl _) (show ObjOk X.prog X.w _ h' _ (.lst ys) from ⟨hz, its, c', r', e⟩), rfl, q _ (I.hok.fresh (Nat.le_refl _))⟩
  rcases hq with hq | hq
  · obtain ⟨its, r', pl, hz⟩ := I.list hq
    have hlen := r'.length
    obtain ⟨o, ho, hc, n, hd⟩ := pl.isList
    exact call_list_seq p (.inl rfl) ho hc hd (fun h' c' kp e => fin its r' hz h' c' kp e) (by simp only [List.size_toArray] <;> omega)
  · obtain ⟨its, r', pl, hz⟩ := I.tuple hq
    have hlen := r'.length
    obtain ⟨o, ho, hc, n, hd⟩ := pl
    exact call_list_seq p (.inr rfl) ho hc hd (fun h' c' kp e => fin its r' hz h' c' kp e) (by simp only [List.size_toArray] <;> omega)
noncomputable def tyV (K : PySem.W.Frag) (T : String) (x : V) (H : Hp) : Prop := match x with
  | .str _ => T = "str"
  | .int _ => T = "int"
  | .ref p => (T = "list" ∧ ∃ xs, SqL K H p xs) ∨ (T = "tuple" ∧ ∃ o, K.lookup p = some o ∧ o.cls = .type "tuple" ∧ o.dict = none) ∨
      (T = "dict" ∧ ((∃ kvs, H p = some (.dK kvs)) ∨ ∃ kvs, H p = some (.dT kvs))) ∨ (T = "set" ∧ ∃ S n, H p = some (.set S n))
  | _ => False
theorem tyV_is {pins : List (Addr × Obj)} {σ : St} {H : Hp} {s : Shared} {T : String} {x : V} {v : Value} (I : Inv X pins σ H s) (r : RelV x v) (ty : tyV X.K T x H) :
    s.TypeIs v T ∧ ∀ a, v = .ref a → ∃ ob, s.heap.get? a = some ob ∧ ob.dict = none := by
  cases x with
  | str z =>
    obtain ⟨t, rfl⟩ := r
    cases (show T = "str" from ty)
    exact ⟨typeIs_str s z t, fun _ e => nomatch e⟩
  | int i =>
    obtain ⟨t, rfl⟩ := r
    cases (show T = "int" from ty)
    exact ⟨typeIs_int s i t, fun _ e => nomatch e⟩
  | ref p =>
    cases r
    rcases ty with ⟨rfl, xs, hq⟩ | ⟨rfl, o, hk, hc, hd⟩ | ⟨rfl, hk⟩ | ⟨rfl, S, n, hk⟩
    · obtain ⟨its, _, pl, _⟩ := I.list hq
      refine ⟨pl.isList.typeIs, fun a e => ?_⟩
      cases e
      obtain ⟨o, n, e, c, hd, _⟩ := pl
      exact ⟨o, e, hd⟩
    · refine ⟨⟨o, I.kIn p o hk, hc⟩, fun a e => ?_⟩
      cases e
      exact ⟨o, I.kIn _ o hk, hd⟩
    · have z : ∃ o, s.heap.get? p = some o ∧ o.ExactDict := by
        rcases hk with ⟨kvs, hk⟩ | ⟨kvs, hk⟩
        · obtain ⟨_, _, _, _, o, _, _, e, ex, _⟩ := I.hok p _ hk
          exact ⟨o, e, ex⟩
        · obtain ⟨_, _, _, _, o, _, _, e, ex, _⟩ := I.hok p _ hk
          exact ⟨o, e, ex⟩
      obtain ⟨o, e, ex⟩ := z
      refine ⟨⟨o, e, ex.1⟩, fun a e2 => ?_⟩
      cases e2
      exact ⟨o, e, ex.2.1⟩
    · obtain ⟨o, _, _, _, e, ex, _⟩ := I.hok p _ hk
      refine ⟨⟨o, e, ex.1⟩, fun a e2 => ?_⟩
      cases e2
      exact ⟨o, e, ex.2.1⟩
  | _ => exact False.elim ty
noncomputable def tBM (K : PySem.W.Frag) (T : String) (r : V → List V → Hp → VK → Prop) (to : TE) (t : TA) : TE := fun σ H Q => to σ H fun x H1 => tyV K T x H1 ∧ t σ H1 fun xs H2 => r x xs H2 Q
variable {o e : Expr} {es : List Expr} {to : TE} {t : TA} {name : Str} {apos cpos : Pos} {T id : String} {r : V → List V → Hp → VK → Prop}
theorem pe_bm (pa : PlainAttrs T) (slot : Slot T name id) (hty : typeOf (.builtin id) = pure (.type "method_descriptor")) (hm : MtR X id r) (ho : PE X o to) (ha : PA X (e :: es) t)
    (hbase : attributeBase o name X.env (eval o X.env) = eval o X.env := by rfl)
    (hfew : ((backTo cpos (starEach (e :: es) X.env)).all (fun x => !x.1) && (backToKw cpos (keywordEach [] X.env)).all (fun x => x.1.isSome)
      && decide ((e :: es).length + ([] : List Keyword).length + (if ([] : List Keyword).isEmpty then 0 else 1) < 30)) = true := by rfl)
    (hline : (apos.endLine == cpos.line) = true := by rfl) (hs : starEach (e :: es) X.env = (false, eval e X.env) :: starEach es X.env := by rfl) (hplain : (backTo cpos (starEach es X.env)).any (·.1) = false := by rfl) :
    PE X (.Call (.Attribute o name apos) (e :: es) [] cpos) (tBM X.K T r to t) := by
  intro pins s σ H Q I h
  refine wpAny_Call_method_late hbase hfew hline rfl (thn (ho pins s σ H _ I h) fun v s1 ⟨x, H1, I1, r1, ty, q1⟩ => ?_)
  obtain ⟨h1, h2⟩ := tyV_is I1 r1 ty
  refine ⟨T, id, pa, slot, hty, h1, h2, ?_⟩
  have hA := ha cpos pins s1 σ H1 _ I1 q1
  rw [hs] at hA ⊢
  refine Calls.callWith_builtin (by show (false || (backTo cpos (starEach es X.env)).any (·.1)) = false; rw [hplain] <;> rfl) (Calls.evalArgs_plain ?_)
  exact thn hA fun us s2 ⟨vs, H2, I2, r2, q2⟩ => hm pins s2 σ H2 x vs v us Q I2 r1 r2 q2
end
end L2

namespace L2
open PySem PySem.Spec PyProof.Rows

noncomputable def MtM (X : Cx) (id : String) (r : V → List V → Hp → VK → Prop) : Prop :=
  ∀ (pins : List (Addr × Obj)) (s : Shared) (σ : St) (H : Hp) (x : V) (xs : List V) (v : Value) (us : List Value) (Q : VK), Inv X pins σ H s → RelV x v → Vals xs us → r x xs H Q →
    wpAny (model X.prog X.w) X.A (call (.builtin id) (v :: us)) (EP X pins σ Q) X.xe s

theorem Vals.one : ∀ {x : V} {us : List Value}, Vals [x] us → ∃ u, us = [u] ∧ RelV x u
  | _, _, .cons r .nil => ⟨_, rfl, r⟩
theorem Vals.zero : ∀ {us : List Value}, Vals [] us → us = []
  | _, .nil => rfl
theorem Vals.eraseIdx : ∀ {xs : List V} {us : List Value} (i : Nat), Vals xs us → Vals (xs.eraseIdx i) (us.eraseIdx i)
  | _, _, _, .nil => .nil
  | _, _, 0, .cons _ t => t
  | _, _, i + 1, .cons r t => .cons r (Vals.eraseIdx i t)
theorem len_erase {α : Type} : ∀ (l : List α) (i : Nat), (l.eraseIdx i).length ≤ l.length
  | [], _ => Nat.le_refl _
  | _ :: _, 0 => Nat.le_succ _
  | _ :: r, i + 1 => Nat.succ_le_succ (len_erase r i)
section
variable {X : Cx} {pins : List (Addr × Obj)} {σ : St} {H : Hp} {s : Shared} {l b : Addr} {xs ys zs : List V}

theorem Inv.lset {its its' : List Value} {n : Nat} {f : Array Value → Array Value} {t' : Nat} (I : Inv X pins σ H s) (hH : H l = some (.lst xs))
    (e : s.heap.get? l = some { cls := .type "list", data := .seq its.toArray n }) (hf : f its.toArray = its'.toArray) (hv : Vals ys its') (hz : ys.length ≤ sizeLine) :
    Inv X pins σ (upd H l (.lst ys)) { s with heap := s.heap.update l (Obj.mapSeq f), toks := t' } := by
  have q := PySem.IsL.update e f
  rw [hf] at q
  refine I.write (x := l) (e := l) (by rw [hH]; exact trivial) (.inl rfl) (fun b' u hb hu => (Heap.get?_update_other s.heap (Obj.mapSeq f) (Ne.symm hb)).trans hu) ⟨_, q⟩ ?_
  exact ⟨hz, its', _, hv, q⟩
theorem Inv.lnew {its : List Value} {t' : Nat} (I : Inv X pins σ H s) (hv : Vals ys its) (hz : ys.length ≤ sizeLine) :
    Inv X pins σ (upd H s.heap.objs.size (.lst ys)) { s with heap := s.heap.push { cls := .type "list", data := .seq its.toArray }, toks := t' } :=
  I.laid (fun _ _ q => Heap.get?_push_of_some _ q) (Nat.le_refl _) ⟨hz, its, 0, hv, Heap.get?_push_size _ rfl⟩
theorem Inv.fresh (I : Inv X pins σ H s) : H s.heap.objs.size = none := I.hok.fresh (Nat.le_refl _)
theorem Inv.lstM (I : Inv X pins σ H s) (hH : H l = some (.lst xs)) : xs.length ≤ sizeLine ∧ ∃ (its : List Value) (n : Nat), Vals xs its ∧ xs.length = its.length ∧ s.heap.get? l = some { cls := .type "list", data := .seq its.toArray n } := by
  obtain ⟨z, its, n, r, e⟩ := I.hok l _ hH
  exact ⟨z, its, n, r, r.length, e⟩

end

section
variable {X : Cx}

noncomputable def rAppend : V → List V → Hp → VK → Prop := fun x vs H Q => ∃ l xs y, x = .ref l ∧ vs = [y] ∧ H l = some (.lst xs) ∧ xs.length < sizeLine ∧ Q .non (upd H l (.lst (xs ++ [y])))
theorem mt_append : MtM X "list.append" rAppend := by
  intro pins s σ H x vs v us Q I rx rv h
  obtain ⟨l, xs, y, rfl, rfl, hH, hz, q⟩ := h
  cases rx
  obtain ⟨u, rfl, ru⟩ := rv.one
  obtain ⟨z, its, n, r, hl, e⟩ := I.lstM hH
  refine call_meets F.slot_list_append ⟨_, e, rfl⟩ F.entry_list_append (F.args_list_append_2 _ _) (PySem.list_append l its.toArray n u (by rw [List.size_toArray]; omega)) ⟨e, ?_⟩
  refine ⟨.non, _, I.lset (its' := its ++ [u]) hH e (by simp) (r.append (.cons ru .nil)) ?_, rfl, q⟩
  rw [List.length_append, List.length_singleton]
  omega

noncomputable def rPopAt : V → List V → Hp → VK → Prop := fun x vs H Q => ∃ l xs i k y, x = .ref l ∧ vs = [.int i] ∧ H l = some (.lst xs) ∧ -(2 ^ 63) ≤ i ∧ i < 2 ^ 63 ∧ seqIndex? i xs.length = some k ∧ xs[k]? = some y ∧ Q y (upd H l (.lst (xs.eraseIdx k)))
theorem mt_popAt : MtM X "list.pop" rPopAt := by
  intro pins s σ H x vs v us Q I rx rv h
  obtain ⟨l, xs, i, k, y, rfl, rfl, hH, h1, h2, hk, hy, q⟩ := h
  cases rx
  obtain ⟨u, rfl, ru⟩ := rv.one
  obtain ⟨t, rfl⟩ := ru
  obtain ⟨z, its, n, r, hl, e⟩ := I.lstM hH
  obtain ⟨w, hw, rw'⟩ := r.get hy
  refine call_meets F.slot_list_pop ⟨_, e, rfl⟩ F.entry_list_pop (F.args_list_pop_2 _ _)
    (MeetsSeq.list_pop_at l its.toArray n i t k w (fitsIndex_both h1 h2) (by rw [List.size_toArray, ← hl]; exact hk) (by rw [← Array.getElem?_toList]; exact hw) (by rw [List.size_toArray]; omega)) ⟨e, ?_⟩
  refine ⟨y, _, I.lset (its' := its.eraseIdx k) hH e ?_ (r.eraseIdx k) ?_, rw', q⟩
  · show its.toArray.eraseIdxIfInBounds k = (its.eraseIdx k).toArray
    rw [List.eraseIdxIfInBounds_toArray]
  · have := len_erase xs k
    omega

end

section
variable {prog : Program} {w : World} {A : Around} {E : Value → Shared → Prop} {s : Shared}
end

section
variable {X : Cx}
end
end L2

namespace Att
open PySem PySem.W PySem.Calls PyProof.Rows

theorem ints_of_wellAll {P : Params} {h : Heap} : ∀ (ns : List Int) (vs : List Value), WellAll P h vs (ns.map WData.int) → IntsAre vs ns := by
  intro ns
  induction ns with
  | nil =>
    intro vs w
    rw [List.map_nil] at w
    cases w
    exact .nil
  | cons n ns ih =>
    intro vs w
    rw [List.map_cons] at w
    cases w with
    | cons a b =>
      cases a
      exact .cons _ _ (ih _ b)

theorem script_of {l : OpenLaw} {n : Nat} (hn : l.most = some n) {P : Params} {h : Heap} {args : List WData} {vals : List Value}
    (hpre : l.row.toRowW.claim.pre args = true) (hwl : WellAll P h vals args) :
    ∃ a vs ns, vals = [Value.ref a] ∧ args = [WData.list (ns.map WData.int)] ∧ h.get? a = some { cls := .type "list", data := .seq vs.toArray } ∧ IntsAre vs ns ∧ ns.length ≤ n := by
  have hsh : WShape.hasAll [] args [.list .int] = true := (pre_splitW hpre).1
  have hc : l.pre.holds [] { args := args } = true := (pre_splitW hpre).2
  obtain ⟨d, r, rfl, h1, h2⟩ := hasAllW_cons hsh
  obtain rfl := hasAllW_nil h2
  obtain ⟨xs, rfl, h3⟩ := hasW_list h1
  obtain ⟨ns, rfl⟩ := items_int h3
  have hlen : ns.length ≤ n := by
    unfold OpenLaw.pre at hc
    have h4 : (WTm.not (.lt (.lit (.int (n : Int))) (.len (.arg 0)))).holds [] { args := [.list (ns.map .int)] } = true := by
      have h4 := (holds_andW hc).1
      rw [hn] at h4
      exact h4
    have h5 := condW_of h4 (w_not (w_lt w_lit (w_len_list (w_arg rfl))))
    rw [List.length_map] at h5
    refine Nat.le_of_not_lt fun q => ?_
    have q' : (n : Int) < ((ns.length : Nat) : Int) := by omega
    first
      | (rw [decide_eq_true q'] at h5; exact absurd h5 (by decide))
      | (simp at h5; omega)
  cases hwl with
  | cons w1 w2 =>
    cases w2
    cases w1 with
    | list ho hall => exact ⟨_, _, ns, rfl, rfl, ho, ints_of_wellAll ns _ hall, hlen⟩

theorem post_true (l : OpenLaw) (args : List WData) : l.row.toRowW.claim.post args (.bool true) args = true :=
  postW_of (r := l.row.toRowW) (X := (true == true))
    (show WShape.has [] (.bool true) .bool = true by first | rfl | decide | simp [WShape.has, WShape.arms, WShape.armsAll])
    (show (WTm.eq .res (.lit (.bool true))).value [] { args := args, res := some (.bool true), after := args } = some (.bool (true == true)) from w_eq_bool (w_res rfl) w_lit) rfl

theorem attach_call {l : OpenLaw} {n : Nat} {q : Program} {loose : List Str} {XP : (Str → Option Value) → Heap → Prop} {YP : World → Heap → Prop} {d : DefRec}
    (hn : l.most = some n) (hdf : d.params.defaults = [])
    (call : ∀ (w : World) (s₀ s₁ : Shared) (mg mb : Str → Option Value) (fa : Addr) (o : Obj) (pm cd doc : Value) (a : Addr) (vs : List Value) (ns : List Int),
      Ground q loose [] XP w s₀ mg mb s₁.heap → YP w s₁.heap →
      s₁.heap.get? fa = some o → o.data = .func (docDef d.name d.params d.body d.scope pm cd doc) → s₁.heap.CodeRec cd d.name → mg d.name = some (.ref fa) →
      s₁.heap.get? a = some { cls := .type "list", data := .seq vs.toArray } → IntsAre vs ns → ns.length ≤ n → s₁.gens = #[] →
      codeAny (model l.prog w) callerA (.call (.ref fa) ⟨[.ref a], []⟩) (fun r s' => r = .ok (.ret (.bool true)) ∧ OldK s₁.heap s'.heap ∧ s'.os = s₁.os ∧ AllBare s'.gens) s₁) :
    WalkO q loose XP YP l.row.toRowW d [] (fun f vs => PySem.call f vs) := by
  intro w s₀ s₁ mg mb G Y fa o pm cd doc dV kV ho hd hcd hD hmg hg args vals as hpre hlay hrd hwl hlo
  obtain rfl : dV = .none := Dflts.none hD hdf
  obtain rfl : kV = .none := Dflts.noKw hD
  obtain ⟨a, vs, ns, rfl, rfl, hobj, hints, hlen⟩ := script_of hn hpre hwl
  refine enter_call (codeAny_mono (call w s₀ s₁ mg mb fa o pm cd doc a vs ns G Y ho (fd_plain hd) hcd hmg hobj hints hlen hg) fun r s' hq => ?_)
  obtain ⟨rfl, h2, h3, h4⟩ := hq
  exact ⟨.inl ⟨.bool true, .bool true, [], rfl, fun _ => rfl, .bool true, post_true l _, fun _ => ⟨List.Pairwise.nil, fun _ hm => (nomatch hm)⟩⟩, h2, h3, h4⟩

section
variable {prog : Program} {w : World} {A : Around} {E : Value → Shared → Prop} {s : Shared} {K : Frag}

end
end Att

namespace L2
open PySem PySem.Spec PyProof.Rows

theorem vals_ints : ∀ {vs : List Value} {ns : List Int}, IntsAre vs ns → Vals (ns.map V.int) vs
  | _, _, .nil => .nil
  | _, _, .cons n t h => .cons ⟨t, rfl⟩ (vals_ints h)

end L2

namespace L2
open PySem PySem.Spec PyProof.Rows

end L2


namespace L2
open PySem PySem.Spec PyProof.Rows

noncomputable def defArgs (s : Stmt) : Arguments := match s with
  | .FunctionDef _ a _ _ _ _ _ _ _ _ => a
  | _ => { posonlyargs := [], args := [], vararg := none, kwonlyargs := [], kw_defaults := [], kwarg := none, defaults := [] }
noncomputable def defBody (s : Stmt) : List Stmt := match s with
  | .FunctionDef _ _ b _ _ _ _ _ _ _ => b
  | _ => []
noncomputable def defScope (s : Stmt) : Scope := match s with
  | .FunctionDef _ _ _ _ _ _ sc _ _ _ => sc
  | _ => { kind := .function, names := [], isGenerator := false, isCoroutine := false }

noncomputable abbrev CX0 : CXT := fun _ _ _ _ _ _ => False
structure Fun (K : PySem.W.Frag) (x qual : Str) (st : Stmt) (f : Addr) (fd : FuncData) : Prop where
  ex : ∃ (oc : Value) (od : Option Addr) (kV doc pm : Value) (an : Option Addr) (cdv ct : Value) (osl : Array (Option Value)),
    fd = PySem.W.fnOf x qual (defArgs st) (defBody st) (defScope st) .none kV doc pm an cdv ct ∧ K.lookup f = some ⟨oc, od, .func fd, osl⟩ ∧ PySem.W.codeIn K cdv qual = true
  kp : PySem.W.keepIn K (.ref f) = true
section
variable {P : Program} {w : World} {K : PySem.W.Frag} {mg : Str → Option Value} {base : Heap}
theorem Fun.ok {x qual : Str} {st : Stmt} {f : Addr} {fd : FuncData} {N ps : List Str} {k : Nat} {sp : Sp} (F : Fun K x qual st f fd) (S : FnScope N ps (defScope st)) (len : ∀ vs H Q E, sp vs H Q E → vs.length = ps.length)
    (hbody : ∀ (cdv : Value) (A : Around) (outer : List Env) (s : Shared) (H : Hp) (vs : List V) (Q : VK) (E : XK), Room k (A.deeper (envOfC qual (defScope st) s.heap.objs.size f cdv)) → sp vs H Q E →
      ∃ t, PSs (cxOf CX0 P w K mg base N qual (defScope st) f cdv A outer s H E).nox (defBody st) t ∧ t { nx := fun _ H' => Q .non H', rt := Q } (start N vs) H) : FnOk P w K mg base CX0 (k + 1) f fd ps sp := by
  obtain ⟨oc, od, kV, doc, pm, an, cdv, ct, osl, rfl, lk, hcd⟩ := F.ex
  refine fn_of lk hcd S len fun A outer s H vs Q E hr hsp => ?_
  obtain ⟨t, h, q⟩ := hbody cdv A outer s H vs Q E hr hsp
  exact ⟨t, h.nox, q⟩
theorem Fun.binds {x qual : Str} {st : Stmt} {f : Addr} {fd : FuncData} {ps : List Str} (F : Fun K x qual st f fd)
    (h : ∀ (kV doc pm : Value) (an : Option Addr) (cdv ct : Value) (us : List Value), us.length = ps.length → bindArgs (PySem.W.fnOf x qual (defArgs st) (defBody st) (defScope st) .none kV doc pm an cdv ct) ⟨us, []⟩ = pure (ps.zip us)) : Binds K fd ps [] := by
  obtain ⟨oc, od, kV, doc, pm, an, cdv, ct, osl, rfl, lk, hcd⟩ := F.ex
  exact .all (h kV doc pm an cdv ct)
theorem fun_mk {x qual : Str} {st : Stmt} {f : Addr} {oc : Value} {od an : Option Addr} {osl : Array (Option Value)} {kV doc pm cdv ct : Value} (l : K.lookup f = some ⟨oc, od, .func (PySem.W.fnOf x qual (defArgs st) (defBody st) (defScope st) .none kV doc pm an cdv ct), osl⟩)
    (c : PySem.W.codeIn K cdv qual = true) (k : PySem.W.keepIn K (.ref f) = true) : Fun K x qual st f (PySem.W.fnOf x qual (defArgs st) (defBody st) (defScope st) .none kV doc pm an cdv ct) := ⟨⟨oc, od, kV, doc, pm, an, cdv, ct, osl, rfl, l, c⟩, k⟩
end
section
variable {X : Cx}
end

theorem ite2 {c A B : Prop} [Decidable c] (h1 : c → A) (h2 : ¬ c → B) : if c then A else B := by
  by_cases h : c
  · rw [if_pos h]
    exact h1 h
  · rw [if_neg h]
    exact h2 h
noncomputable def Same (H H' : Hp) : Prop := ∀ b o, H b = some o → H' b = some o
theorem Same.refl (H : Hp) : Same H H := fun _ _ h => h
theorem Same.trans {H H1 H2 : Hp} (a : Same H H1) (b : Same H1 H2) : Same H H2 := fun c o h => b c o (a c o h)
theorem Same.free {H H' : Hp} (e : Same H H') {l : Addr} (h : H' l = Option.none) : H l = Option.none := by
  cases q : H l with
  | none => rfl
  | some o =>
    rw [e l o q] at h
    cases h
theorem Same.seq {K : PySem.W.Frag} {H H' : Hp} {a : Addr} {xs : List V} (e : Same H H') (h : SqL K H a xs) : SqL K H' a xs := by
  rcases h with (h | ⟨o, h⟩) | h
  · exact .inl (.inl (e _ _ h))
  · exact .inl (.inr ⟨o, e _ _ h⟩)
  · exact .inr h

end L2

end
set_option Elab.async false
set_option linter.all false
set_option maxRecDepth 100000
namespace L2
open PySem PySem.Spec PyProof.Rows
noncomputable def Bits (k : Nat) (x : Int) : Prop := x.natAbs < 2 ^ k
theorem Bits.mono {j k : Nat} {x : Int} (h : Bits j x) (hk : j ≤ k) : Bits k x := Nat.lt_of_lt_of_le h (Nat.pow_le_pow_right (by decide) hk)
theorem Bits.mul {j k : Nat} {x y : Int} (h : Bits j x) (h' : Bits k y) : Bits (j + k) (x * y) := by
  unfold Bits at *
  rw [Int.natAbs_mul, Nat.pow_add]
  exact Nat.mul_lt_mul'' h h'
theorem Bits.neg {k : Nat} {x : Int} (h : Bits k x) : Bits k (-x) := by unfold Bits at *; rw [Int.natAbs_neg]; exact h
theorem Bits.add {k : Nat} {x y : Int} (h : Bits k x) (h' : Bits k y) : Bits (k + 1) (x + y) := by
  unfold Bits at *
  have := Int.natAbs_add_le x y
  rw [Nat.pow_succ]; omega
theorem Bits.sub {k : Nat} {x y : Int} (h : Bits k x) (h' : Bits k y) : Bits (k + 1) (x - y) := by
  have := h.add h'.neg
  rwa [← Int.sub_eq_add_neg] at this
theorem Bits.le {k : Nat} {x y : Int} (h : Bits k x) (hy : y.natAbs ≤ x.natAbs) : Bits k y := Nat.lt_of_le_of_lt hy h
theorem Bits.log2 {k : Nat} {x : Int} (h : Bits k x) (hk : 0 < k) : x.natAbs.log2 < k := by
  rcases Nat.eq_zero_or_pos x.natAbs with h0 | hp
  · rw [h0]; exact hk
  · exact (Nat.log2_lt (Nat.ne_of_gt hp)).mpr h
theorem Bits.bits {k : Nat} {x : Int} (h : Bits k x) : Builtin.Int.intBits x ≤ k := by
  unfold Builtin.Int.intBits
  split
  · exact Nat.zero_le _
  · rename_i hx
    have hx' : x.natAbs ≠ 0 := by
      intro e; apply hx
      rw [Int.natAbs_eq_zero.mp e]; rfl
    exact (Nat.log2_lt hx').mpr h
theorem Bits.mulOk {j k : Nat} {x y : Int} (h : Bits j x) (h' : Bits k y) (hk : j + k ≤ 134217728) : IntMulOk x y := by
  unfold IntMulOk
  have e1 := h.bits
  have e2 := h'.bits
  have e : Builtin.Int.intTooBig ((Builtin.Int.intBits x : Int) + (Builtin.Int.intBits y : Int)) = false := by
    unfold Builtin.Int.intTooBig
    refine decide_eq_false ?_
    have : (bitsLine : Nat) = 134217728 := by unfold bitsLine; decide
    omega
  intro z
  rw [Bool.and_eq_true] at z
  have z2 := z.2
  rw [e] at z2
  cases z2
section
variable {X : Cx}
theorem op_mulB : OpR X (binaryOp .Mult) (rI IntMulOk fun i j => .int (i * j)) := opI fun _ _ _ _ _ _ _ hc q => mul_int q hc
noncomputable def CPowB (i j : Int) : Prop := 0 ≤ j ∧ (Builtin.Int.intBits i : Int) * j ≤ 134217728
theorem op_powB : OpR X (binaryOp .Pow) (rI CPowB fun i j => .int (i ^ j.toNat)) := opI fun i j _ _ _ _ _ hc q => by
  refine pow_int hc.1 ?_ q
  have e : ((2 : Int) ^ 27) = 134217728 := by decide
  rw [e]; exact hc.2
end
end L2
namespace L2
open PySem PySem.Spec PyProof.Rows

theorem ObjOk.got {P : Program} {w : World} {H : Hp} {h : Heap} {a : Addr} {o : HO} (x : ObjOk P w H h a o) : ∃ ob, h.get? a = some ob := by
  cases o with
  | lst xs => obtain ⟨_, _, _, _, e⟩ := x; exact ⟨_, e⟩
  | tup xs => obtain ⟨_, _, _, ob, e, _⟩ := x; exact ⟨_, e⟩
  | dK kvs => obtain ⟨_, _, _, _, o, _, _, e, _⟩ := x; exact ⟨_, e⟩
  | dT kvs => obtain ⟨_, _, _, _, o, _, _, e, _⟩ := x; exact ⟨_, e⟩
  | set S n => obtain ⟨o, _, _, _, e, _⟩ := x; exact ⟨_, e⟩
  | ins C dx fs => obtain ⟨_, _, _, e, _⟩ := x; exact ⟨_, e⟩
  | own y => obtain ⟨_, e⟩ := x; exact ⟨_, e⟩
  | xd fs => obtain ⟨_, ⟨_, _, _, e, _⟩, _⟩ := x; exact ⟨_, e⟩
  | rng lo hi => obtain ⟨_, _, _, e⟩ := x; exact ⟨_, e⟩
  | frz ob u => obtain ⟨e, _⟩ := x; exact ⟨_, e⟩
  | tbl ps => exact ⟨_, (show h.get? a = some _ from x)⟩
  | met f y => exact ⟨_, (show h.get? a = some _ from x)⟩
  | ext φ => obtain ⟨_, ⟨_, e⟩, _⟩ := x; exact ⟨_, e⟩
theorem HOk.through {P : Program} {w : World} {H : Hp} {B h h' : Heap} (x : HOk P w H h) (k : B.StaysIn h) (k' : B.StaysIn h') (t : ∀ b o, H b = some o → ∃ o', B.get? b = some o') : HOk P w H h' := fun a o e =>
  (x a o e).stay (fun b u hb q => by
    have hB : ∃ ob, B.get? b = some ob := by
      rcases hb with z | z
      · exact t b o (z ▸ e)
      · exact t b _ z
    obtain ⟨ob, hob⟩ := hB
    have e1 := k b ob hob
    rw [q] at e1
    cases e1
    exact k' b _ hob) (fun _ q => q) fun _ _ q => q
theorem Un.through {fs : List Addr} {H H' : Hp} {B h h1 h2 : Heap} (un : Un fs [] H H' h h1) (cov : ∀ b o, h.get? b = some o → b ∉ fs → ∃ o', B.get? b = some o') (k : B.StaysIn h1) (k' : B.StaysIn h2)
    (fr : ∀ b ∈ fs, ∀ o, h1.get? b = some o → ∃ sl, h2.get? b = some { o with slots := sl }) : Un fs [] H H' h h2 where
  keep := fun b o q n hb hx => by
    obtain ⟨o', ho⟩ := cov b o q hb
    have e := un.keep b o q n hb hx
    have e1 := k b o' ho
    rw [e] at e1
    cases e1
    exact k' b _ ho
  slot := fun b o q n hb hx => by
    obtain ⟨sl, e⟩ := un.slot b o q n hb hx
    obtain ⟨sl', e'⟩ := fr b hb _ e
    exact ⟨sl', e'⟩
  free := un.free
  there := fun b o q hx => by
    by_cases hb : b ∈ fs
    · obtain ⟨o', e⟩ := un.there b o q hx
      obtain ⟨sl, e'⟩ := fr b hb _ e
      exact ⟨_, e'⟩
    · obtain ⟨o', ho⟩ := cov b o q hb
      exact ⟨o', k' b _ ho⟩
  tups := un.tups
  frzs := un.frzs
  tbls := un.tbls
structure Fly (P : Program) (w : World) (stack : List Env) (H : Hp) (s : Shared) (ea C : Addr) (H' : Hp) (s' : Shared) : Prop where
  os : s'.os = s.os
  bare : AllBare s'.gens
  un : Un (frs stack) [] H H' s.heap s'.heap
  hok : HOk P w H' s'.heap
  fly : ∃ B a0, Heap.FlyingW B stack ea (.ref C) a0 s'.heap ∧ (∀ b o, s.heap.get? b = some o → b ∉ frs stack → ∃ o', B.get? b = some o') ∧ (∀ b o, H' b = some o → ∃ o', B.get? b = some o')
noncomputable def CXR (P : Program) (w : World) : CXT := fun outer H s E e s' => ∃ ea C H', e = .ref ea ∧ Fly P w outer H s ea C H' s' ∧ E (.ref C) none H'
theorem frs_slots {B h h' : Heap} {l : List Env} (fr : h.FunFrames B l) (sm : h.UpToSlots h') : ∀ b ∈ frs l, ∀ o, h.get? b = some o → ∃ sl, h'.get? b = some { o with slots := sl } := fun b hb o ho => by
  obtain ⟨_, o2, ho2, hd⟩ := fr.mem hb
  rw [ho] at ho2
  cases ho2
  exact sm b o ho hd
section
variable {P : Program} {w : World} {K : PySem.W.Frag} {mg : Str → Option Value} {base : Heap} {N : List Str} {qual : Str} {scope : Scope} {f : Addr} {cd : Value} {A : Around} {outer : List Env} {s₀ : Shared} {H₀ : Hp} {E : XK} {CX : CXT}
theorem entry_off {pins : List (Addr × Obj)} {σ : St} {H : Hp} {s : Shared} (I : Inv (cxOf CX P w K mg base N qual scope f cd A outer s₀ H₀ E) pins σ H s) {b : Addr} {o : Obj} (q : s₀.heap.get? b = some o) (hb : b ∉ frs outer) :
    b ∉ frs (cxOf CX P w K mg base N qual scope f cd A outer s₀ H₀ E).stack := fun z => by
  rcases List.mem_cons.mp (I.stkSub b z) with e | e
  · have h1 := Heap.lt_size q
    rw [show b = s₀.heap.objs.size from e] at h1
    exact Nat.lt_irrefl _ h1
  · exact hb e
theorem entry_in {pins : List (Addr × Obj)} {σ : St} {H : Hp} {s : Shared} (I : Inv (cxOf CX P w K mg base N qual scope f cd A outer s₀ H₀ E) pins σ H s) {b : Addr} {o : Obj} (q : s₀.heap.get? b = some o) : ∃ o', s.heap.get? b = some o' :=
  I.base.there b o q (fun z => absurd (show b ∈ ([] : List Addr) from z) (by simp))
theorem passR : Passes (CXR P w) (cxOf (CXR P w) P w K mg base N qual scope f cd A outer s₀ H₀ E) E := by
  intro pins σ H s e s' I h
  obtain ⟨ea, C, H', rfl, F, q⟩ := h
  obtain ⟨B, a0, fl, cov, trk⟩ := F.fly
  have J := I.call' (ch := []) F.os F.un F.hok F.bare (fun b z => absurd z (by simp))
  have cov' : ∀ b o, s₀.heap.get? b = some o → b ∉ frs outer → ∃ o', B.get? b = some o' := fun b o z hb => by
    obtain ⟨o1, h1⟩ := entry_in I z
    exact cov b o1 h1 (entry_off I z hb)
  refine wpAny_leaves_onW (base := B) (outer := outer) (L := s₀.heap.objs.size) I.ok.frames rfl fl fun h' fl' sm => ?_
  have fr := frs_slots (fl.2.2.1).2.2 sm
  exact ⟨ea, C, H', rfl, ⟨J.os, F.bare, J.base.through cov' fl.1 fl'.1 fr, F.hok.through fl.1 fl'.1 trk, B, a0, fl', cov', trk⟩, q⟩
end

theorem Fun.okR {P : Program} {w : World} {K : PySem.W.Frag} {mg : Str → Option Value} {base : Heap} {x qual : Str} {st : Stmt} {f : Addr} {fd : FuncData} {N ps : List Str} {k : Nat} {sp : Sp} (F : Fun K x qual st f fd) (S : FnScope N ps (defScope st)) (len : ∀ vs H Q E, sp vs H Q E → vs.length = ps.length)
    (hbody : ∀ (cdv : Value) (A : Around) (outer : List Env) (s : Shared) (H : Hp) (vs : List V) (Q : VK) (E : XK), Room k (A.deeper (envOfC qual (defScope st) s.heap.objs.size f cdv)) → sp vs H Q E →
      ∃ t, PSs (cxOf (CXR P w) P w K mg base N qual (defScope st) f cdv A outer s H E) (defBody st) t ∧ t { nx := fun _ H' => Q .non H', rt := Q } (start N vs) H) : FnOk P w K mg base (CXR P w) (k + 1) f fd ps sp := by
  obtain ⟨oc, od, kV, doc, pm, an, cdv, ct, osl, rfl, lk, hcd⟩ := F.ex
  exact fn_of lk hcd S len fun A outer s H vs Q E hr hsp => hbody cdv A outer s H vs Q E hr hsp

noncomputable abbrev TX := Ends → (Addr → Hp → Prop) → St → Hp → Prop
noncomputable def XE (X : Cx) (pins : List (Addr × Obj)) (σ : St) (E : Addr → Hp → Prop) (e : Value) (s' : Shared) : Prop :=
  ∃ ea C H1 s1 H', e = .ref ea ∧ Inv X pins σ H1 s1 ∧ Fly X.prog X.w X.stack H1 s1 ea C H' s' ∧ E C H'
noncomputable def PX (X : Cx) (st : List Stmt) (t : TX) : Prop :=
  ∀ (pins : List (Addr × Obj)) (s : Shared) (σ : St) (H : Hp) (D : Ends) (E : Addr → Hp → Prop), Inv X pins σ H s → t D E σ H → wpAny (model X.prog X.w) X.A (execs st X.env) (SP X pins D) (XE X pins σ E) s
theorem PA.nox {X : Cx} {es : List Expr} {t : TA} (h : PA X.nox es t) (pos : Pos) {pins : List (Addr × Obj)} {s : Shared} {σ : St} {H : Hp} {Q : List V → Hp → Prop} {E : Value → Shared → Prop} (I : Inv X pins σ H s) (q : t σ H Q) :
    wpAny (model X.prog X.w) X.A (spliced (backTo pos (starEach es X.env))) (AP X pins σ Q) E s :=
  wpAny_mono (h pos pins s σ H Q (I.wish _) q) (fun us s1 ⟨vs, H1, I1, r, q1⟩ => ⟨vs, H1, I1.unwish, r, q1⟩) fun _ _ z => z.elim
noncomputable def excO (ea C : Addr) : HO := .ext fun h => ∃ o vs, h.get? ea = some o ∧ o.cls = .ref C ∧ o.data = .fields vs
noncomputable abbrev Cx.inExc (X : Cx) (ea : Addr) : Cx := { X with A := X.A.mark (some (.ref ea)), calm := false, xe := fun _ _ => False }
section
variable {X : Cx} {pins : List (Addr × Obj)} {σ : St} {H : Hp} {s : Shared}
theorem Inv.exc (I : Inv X pins σ H s) (ea : Addr) : Inv (X.inExc ea) pins σ H s :=
  ⟨⟨I.ok.mod, I.ok.kind, I.ok.glob, I.ok.blt, I.ok.above, I.ok.inj, I.ok.has, I.ok.cab, (fun z => absurd z Bool.false_ne_true), I.ok.frames, I.ok.stk, I.ok.exf, I.ok.bs, I.ok.bsz, I.ok.noex, I.ok.exfs, I.ok.funs, I.ok.frf⟩,
    I.os, I.bare, I.base, I.loc, I.cell, I.free, I.freeC, I.pin, I.hok, I.len⟩
end
theorem HOk.track {P : Program} {w : World} {H : Hp} {h : Heap} {a : Addr} {o : HO} (x : HOk P w H h) (hn : H a = none) (new : ObjOk P w (upd H a o) h a o) : HOk P w (upd H a o) h := fun b u e => by
  by_cases hb : b = a
  · subst hb; rw [upd_same] at e; cases e; exact new
  · rw [upd_ne hb] at e
    exact (x b u e).stay (fun c v _ q => q) (fun c q => by rw [upd_ne (ne_of_none q hn)]; exact q) fun c xs q => by rw [upd_ne (ne_of_none q hn)]; exact q
end L2
namespace L2
open PySem PySem.Spec PyProof.Rows
theorem bo_int : bootBuiltins "int" = some (.type "int") := by decide +kernel
theorem bo_bool : bootBuiltins "bool" = some (.type "bool") := by decide +kernel
theorem bo_list : bootBuiltins "list" = some (.type "list") := by decide +kernel
theorem bo_tuple : bootBuiltins "tuple" = some (.type "tuple") := by decide +kernel
theorem bo_isinstance : bootBuiltins "isinstance" = some (.builtin "isinstance") := by decide +kernel
theorem bo_len : bootBuiltins "len" = some (.builtin "len") := by decide +kernel
theorem bo_min : bootBuiltins "min" = some (.builtin "min") := by decide +kernel
theorem bo_all : bootBuiltins "all" = some (.builtin "all") := by decide +kernel
section
variable {prog : Program} {w : World} {A : Around} {E : Value → Shared → Prop} {s : Shared} {K : PySem.W.Frag} {ea C : Addr}
end
section
variable {X : Cx}
noncomputable def isB (t n : String) : Option Bool :=
  if t = "int" ∧ n = "int" then some true else if t = "int" ∧ n = "bool" then some false else if t = "tuple" ∧ n = "tuple" then some true else if t = "list" ∧ n = "list" then some true
  else if t = "str" ∧ n = "str" then some true else if t = "bool" ∧ n = "bool" then some true else none
theorem kit_of_isB {K : PySem.W.Frag} {t n : String} {b : Bool} (h : isB t n = some b) : PySem.W.kitOne K (.type t) (.type n) = some b := by
  unfold isB at h
  split at h
  · rename_i e; obtain ⟨rfl, rfl⟩ := e; cases h; rfl
  split at h
  · rename_i e; obtain ⟨rfl, rfl⟩ := e; cases h; rfl
  split at h
  · rename_i e; obtain ⟨rfl, rfl⟩ := e; cases h; rfl
  split at h
  · rename_i e; obtain ⟨rfl, rfl⟩ := e; cases h; rfl
  split at h
  · rename_i e; obtain ⟨rfl, rfl⟩ := e; cases h; rfl
  split at h
  · rename_i e; obtain ⟨rfl, rfl⟩ := e; cases h; rfl
  cases h
end
end L2
namespace L2
open PySem PySem.Spec PyProof.Rows
mutual
inductive RdV (K : PySem.W.Frag) (H : Hp) : V → PyData → Prop
  | non : RdV K H .non .none
  | bl (b) : RdV K H (.bl b) (.bool b)
  | int (i) : RdV K H (.int i) (.int i)
  | str (x) : RdV K H (.str x) (.str x)
  | lst {a xs ds} : SqL K H a xs → RdVs K H xs ds → RdV K H (.ref a) (.list ds)
  | tup {a xs ds} : SqT K H a xs → RdVs K H xs ds → RdV K H (.ref a) (.tuple ds)
inductive RdVs (K : PySem.W.Frag) (H : Hp) : List V → List PyData → Prop
  | nil : RdVs K H [] []
  | cons {x xs d ds} : RdV K H x d → RdVs K H xs ds → RdVs K H (x :: xs) (d :: ds)
end
section
variable {X : Cx} {pins : List (Addr × Obj)} {σ : St} {H : Hp} {s : Shared}
mutual
theorem RdV.reads (I : Inv X pins σ H s) : ∀ {x : V} {d : PyData} {u : Value}, RdV X.K H x d → RelV x u → ∃ as, Reads s.heap u d as
  | _, _, _, .non, r => by cases r; exact ⟨_, .none⟩
  | _, _, _, .bl b, r => by cases r; exact ⟨_, .bool b⟩
  | _, _, _, .int i, r => by obtain ⟨t, rfl⟩ := r; exact ⟨_, .int i t⟩
  | _, _, _, .str x, r => by obtain ⟨t, rfl⟩ := r; exact ⟨_, .str x t⟩
  | _, _, _, .lst hq hs, r => by
    cases r
    obtain ⟨its, rv, ⟨o, n, ho, hc, _, hd⟩, _⟩ := I.list hq
    obtain ⟨as, q⟩ := RdVs.reads I hs rv
    exact ⟨_, .list ho hc hd q⟩
  | _, _, _, .tup hq hs, r => by
    cases r
    obtain ⟨its, rv, ⟨o, ho, hc, n, hd⟩, _⟩ := I.tuple hq
    obtain ⟨as, q⟩ := RdVs.reads I hs rv
    exact ⟨_, .tuple ho hc hd q⟩
theorem RdVs.reads (I : Inv X pins σ H s) : ∀ {xs : List V} {ds : List PyData} {us : List Value}, RdVs X.K H xs ds → Vals xs us → ∃ as, ReadsAll s.heap us ds as
  | _, _, _, .nil, .nil => ⟨_, .nil⟩
  | _, _, _, .cons h hs, .cons r t => by
    obtain ⟨as, q⟩ := RdV.reads I h r
    obtain ⟨bs, p⟩ := RdVs.reads I hs t
    exact ⟨_, .cons q p⟩
end
end
section
variable {X : Cx}
noncomputable def rEqD (K : PySem.W.Frag) : R2 := fun x y H Q => ∃ d e, RdV K H x d ∧ RdV K H y e ∧ SeqAt.shaped d = true ∧ SeqAt.shaped e = true ∧ Q (.bl (PyData.eqv d e)) H
noncomputable def rNeD (K : PySem.W.Frag) : R2 := fun x y H Q => ∃ d e, RdV K H x d ∧ RdV K H y e ∧ SeqAt.shaped d = true ∧ SeqAt.shaped e = true ∧ Q (.bl (!PyData.eqv d e)) H
theorem op_eqD (hu : X.A.units + 64 < cLine) : OpR X (compareOp .Eq) (rEqD X.K) := by
  intro pins s σ H x y v u Q I rx ry h
  obtain ⟨d, e, h1, h2, s1, s2, q⟩ := h
  obtain ⟨as, r1⟩ := h1.reads I rx
  obtain ⟨bs, r2⟩ := h2.reads I ry
  exact eq_dataH r1 r2 s1 s2 hu ⟨.bl _, H, I, rfl, q⟩
theorem op_neD (hu : X.A.units + 64 < cLine) : OpR X (compareOp .NotEq) (rNeD X.K) := by
  intro pins s σ H x y v u Q I rx ry h
  obtain ⟨d, e, h1, h2, s1, s2, q⟩ := h
  obtain ⟨as, r1⟩ := h1.reads I rx
  obtain ⟨bs, r2⟩ := h2.reads I ry
  exact ne_dataH r1 r2 s1 s2 hu ⟨.bl _, H, I, rfl, q⟩
noncomputable def CDivP (_ j : Int) : Prop := 0 < j ∧ Bits 9000 j
theorem op_fdivP : OpR X (binaryOp .FloorDiv) (rI CDivP fun i j => .int (i / j)) := opI fun i j _ _ _ _ _ hc q =>
  floordiv_int (by have := hc.1; omega) (by rw [Int.fdiv_eq_ediv_of_nonneg i (by have := hc.1; omega)]; exact q) (.inl (PyProof.noPylong_of_log2 (hc.2.log2 (by decide))))
end

noncomputable def Df (P : Program) (w : World) (K : PySem.W.Frag) (mg : Str → Option Value) (base : Heap) (k : Nat) (x : Str) (ps : List Str) (sp : Sp) : Prop :=
  ∃ f fd, FnOk P w K mg base (CXR P w) k f fd ps sp ∧ Binds K fd ps [] ∧ PySem.W.keepIn K (.ref f) = true ∧ mg x = some (.ref f)
section
variable {X : Cx} {k : Nat} {ps : List Str} {sp : Sp} {x : Str} {p pos pos' : Pos} {e : Expr} {es : List Expr} {t : TA} {E : XK}
theorem pe_df (G : Df X.prog X.w X.K X.mg X.base k x ps sp) (hr : Room k X.A) (hg : Gl X x) (hx : Passes (CXR X.prog X.w) X E) (ha : PA X (e :: es) t) (hdb : (x == ("__debug__" : Str)) = false := by decide)
    (he : starEach (e :: es) X.env = (false, eval e X.env) :: starEach es X.env := by rfl) (hpl : (backTo pos (starEach es X.env)).any (·.1) = false := by rfl) : PE X (.Call (.Name x p) (e :: es) [] pos) (tCall sp [] E t) := by
  obtain ⟨f, fd, F, hb, hk, hm⟩ := G
  exact pe_call F hr hg hm hk hb .nil hx ha hdb he hpl
end
end L2
namespace L2
open PySem PySem.Spec PyProof.Rows
section
variable {X : Cx} {o e : Expr} {to : TE} {t : TA} {apos pos : Pos}
theorem pe_append (ho : PE X o to) (ha : PA X [e] t) (hb : attributeBase o "append" X.env (eval o X.env) = eval o X.env := by rfl)
    (hf : ((backTo pos (starEach [e] X.env)).all (fun x => !x.1) && (backToKw pos (keywordEach [] X.env)).all (fun x => x.1.isSome) && decide ([e].length + ([] : List Keyword).length + (if ([] : List Keyword).isEmpty then 0 else 1) < 30)) = true := by rfl)
    (hl : (apos.endLine == pos.line) = true := by rfl) (hs : starEach [e] X.env = (false, eval e X.env) :: starEach [] X.env := by rfl) (hp : (backTo pos (starEach [] X.env)).any (·.1) = false := by rfl) :
    PE X (.Call (.Attribute o "append" apos) [e] [] pos) (tBM X.K "list" rAppend to t) :=
  pe_bm PySem.F.plainAttrs_list PySem.F.slot_list_append PySem.F.type_list_append mt_append ho ha hb hf hl hs hp
theorem pe_popAt (ho : PE X o to) (ha : PA X [e] t) (hb : attributeBase o "pop" X.env (eval o X.env) = eval o X.env := by rfl)
    (hf : ((backTo pos (starEach [e] X.env)).all (fun x => !x.1) && (backToKw pos (keywordEach [] X.env)).all (fun x => x.1.isSome) && decide ([e].length + ([] : List Keyword).length + (if ([] : List Keyword).isEmpty then 0 else 1) < 30)) = true := by rfl)
    (hl : (apos.endLine == pos.line) = true := by rfl) (hs : starEach [e] X.env = (false, eval e X.env) :: starEach [] X.env := by rfl) (hp : (backTo pos (starEach [] X.env)).any (·.1) = false := by rfl) :
    PE X (.Call (.Attribute o "pop" apos) [e] [] pos) (tBM X.K "list" rPopAt to t) :=
  pe_bm PySem.F.plainAttrs_list PySem.F.slot_list_pop PySem.F.type_list_pop mt_popAt ho ha hb hf hl hs hp
theorem tyV_lst {K : PySem.W.Frag} {H : Hp} {p : Addr} {xs : List V} (h : H p = some (.lst xs)) : tyV K "list" (.ref p) H := .inl ⟨rfl, _, SqL.of h⟩
end
end L2
namespace L2
open PySem PySem.Spec PyProof.Rows
section
variable {ta : TA} {tl : TE} {g : TG} {tb : TS} {D : Ends} {σ : St} {H : Hp} {K : PySem.W.Frag}
end
theorem same_new {H : Hp} {p : Addr} (h : H p = none) (o : HO) : Same H (upd H p o) := fun b u q => by rw [upd_ne (ne_of_none q h)]; exact q
theorem Same.tup {K : PySem.W.Frag} {H H' : Hp} {a : Addr} {xs : List V} (e : Same H H') (h : SqT K H a xs) : SqT K H' a xs := by
  rcases h with (h | ⟨o, h⟩) | h
  · exact .inl (.inl (e _ _ h))
  · exact .inl (.inr ⟨o, e _ _ h⟩)
  · exact .inr h
end L2
namespace L2
open PySem PySem.Spec PyProof.Rows
section
variable {X : Cx}
end
theorem atI0 {α : Type} {x : α} {xs : List α} : atI (x :: xs) 0 = some x := atI_nat (j := 0) rfl
theorem atI1 {α : Type} {x y : α} {xs : List α} : atI (x :: y :: xs) 1 = some y := atI_nat (j := 1) rfl
end L2
section
open PySem PySem.Spec PyProof.Rows L2
namespace L2
end L2
namespace L2
theorem Bits.emod {k : Nat} {m : Int} (hm : Bits k m) (h0 : 0 < m) (x : Int) : Bits k (x % m) := hm.le (by
  have h1 := Int.emod_nonneg x (by omega : m ≠ 0)
  have h2 := Int.emod_lt_of_pos x h0
  omega)
theorem Bits.lit {x : Int} (k : Nat) (h : x.natAbs < 2 ^ 64 := by decide) (hk : 64 ≤ k := by decide) : Bits k x := Bits.mono (j := 64) h hk
theorem powB {i j : Int} {k : Nat} (h : Bits k i) (h0 : 0 ≤ j) (hk : k * j.toNat ≤ 134217728) : CPowB i j := ⟨h0, by
  have e1 := h.bits
  have e2 : (Builtin.Int.intBits i : Int) * j ≤ (k : Int) * j := Int.mul_le_mul_of_nonneg_right (by omega) h0
  have e3 : (k : Int) * j = ((k * j.toNat : Nat) : Int) := by rw [Int.natCast_mul]; congr 1; omega
  omega⟩
theorem ipos {b n : Nat} (h : 0 < b) : (0 : Int) < (b : Int) ^ n := Int.pow_pos (by omega)
end L2

end
namespace L2
open PySem PySem.Spec PyProof.Rows

noncomputable def compChk (osc scope : Scope) (tn fn : List Str) : Bool :=
  decide (scope.kind = .function) && scope.names.all (fun x => !decide (x.2 = .local) || decide (scope.names.lookup x.1 = some .local)) &&
  scope.names.all (fun x => !decide (x.2 = .cell) || decide (scope.names.lookup x.1 = some .cell)) &&
  scope.names.all (fun x => !decide (x.2 = .free) || decide (osc.names.lookup x.1 = some .cell) || decide (osc.names.lookup x.1 = some .free)) &&
  tn.all (fun x => decide (scope.names.lookup x = some .local) || decide (scope.names.lookup x = some .cell)) &&
  fn.all (fun x => decide (scope.names.lookup x = some .free)) && decide ((tn ++ fn).Nodup)
structure CompSc (osc scope : Scope) (tn fn : List Str) : Prop where
  kind : scope.kind = .function
  loc : ∀ x ∈ scope.names, x.2 = .local → scope.names.lookup x.1 = some .local
  cell : ∀ x ∈ scope.names, x.2 = .cell → scope.names.lookup x.1 = some .cell
  free : ∀ x ∈ scope.names, x.2 = .free → osc.names.lookup x.1 = some .cell ∨ osc.names.lookup x.1 = some .free
  frees : ∀ x ∈ fn, scope.names.lookup x = some .free
  nd : (tn ++ fn).Nodup
theorem compSc {osc scope : Scope} {tn fn : List Str} (h : compChk osc scope tn fn = true) : CompSc osc scope tn fn := by
  unfold compChk at h
  simp only [Bool.and_eq_true, decide_eq_true_eq, List.all_eq_true, Bool.or_eq_true, Bool.not_eq_true', decide_eq_false_iff_not] at h
  obtain ⟨⟨⟨⟨⟨⟨h1, h2⟩, h3⟩, h4⟩, h5⟩, h6⟩, h7⟩ := h
  refine ⟨h1, fun x hx e => (h2 x hx).resolve_left (fun n => n e), fun x hx e => (h3 x hx).resolve_left (fun n => n e), fun x hx e => ?_, h6, h7⟩
  rcases h4 x hx with (n | q) | q
  · exact absurd e n
  · exact .inl q
  · exact .inr q
theorem relabel_lookup (env : Env) : ∀ (names : List (Str × NameKind)) (x : Str),
    (names.map fun (n, k) => if (k == NameKind.free && env.scope.kind == .function && env.kindOf n == some .cell) then (n, NameKind.cell) else (n, k)).lookup x =
      (names.lookup x).map fun k => if (k == NameKind.free && env.scope.kind == .function && env.kindOf x == some .cell) then NameKind.cell else k
  | [], x => rfl
  | (n, k) :: r, x => by
    have ih := relabel_lookup env r x
    rw [List.map_cons]
    by_cases hx : x = n
    · subst hx
      show List.lookup x ((if (k == NameKind.free && env.scope.kind == .function && env.kindOf x == some .cell) = true then (x, NameKind.cell) else (x, k)) :: _) = _
      split
      · rename_i hc; rw [List.lookup_cons, List.lookup_cons]; simp only [beq_self_eq_true, Option.map_some, if_pos hc]
      · rename_i hc; rw [List.lookup_cons, List.lookup_cons]; simp only [beq_self_eq_true, Option.map_some, if_neg hc]
    · have hb : (x == n) = false := beq_eq_false_iff_ne.mpr hx
      show List.lookup x ((if (k == NameKind.free && env.scope.kind == .function && env.kindOf n == some .cell) = true then (n, NameKind.cell) else (n, k)) :: _) = _
      split
      · simp only [List.lookup_cons, hb]; exact ih
      · simp only [List.lookup_cons, hb]; exact ih
theorem relabel_kind {scope : Scope} {env : Env} {x : Str} {k : NameKind} (h : (relabel scope env).names.lookup x = some k) : ∃ k', scope.names.lookup x = some k' ∧ (k' = k ∨ (k' = .free ∧ k = .cell)) := by
  have e := relabel_lookup env scope.names x
  have h' : (scope.names.map fun (n, k) => if (k == NameKind.free && env.scope.kind == .function && env.kindOf n == some .cell) then (n, NameKind.cell) else (n, k)).lookup x = some k := h
  rw [h'] at e
  cases q : scope.names.lookup x with
  | none => rw [q] at e; cases e
  | some k' =>
    rw [q] at e
    have e' := Option.some.inj e
    refine ⟨k', rfl, ?_⟩
    dsimp only at e'
    split at e'
    · rename_i hc
      simp only [Bool.and_eq_true, beq_iff_eq] at hc
      exact .inr ⟨hc.1.1, e'⟩
    · exact .inl e'.symm
theorem relabel_free {scope : Scope} {env : Env} {x : Str} (h : scope.names.lookup x = some .free) : (relabel scope env).names.lookup x = some .cell ∨ (relabel scope env).names.lookup x = some .free := by
  have e := relabel_lookup env scope.names x
  rw [h] at e
  have e' : (relabel scope env).names.lookup x = some _ := e
  rw [e']
  by_cases c : (NameKind.free == NameKind.free && env.scope.kind == .function && env.kindOf x == some .cell) = true
  · left; simp only [Option.some.injEq]; rw [if_pos c]
  · right; simp only [Option.some.injEq]; rw [if_neg c]
theorem cellsFrom_app : ∀ (names : List (Str × NameKind)) (n : Nat) (acc : List (Str × Addr)), cellsFrom n names acc = cellsFrom n names [] ++ acc
  | [], _, acc => rfl
  | (x, k) :: r, n, acc => by
    unfold cellsFrom
    split
    · rw [cellsFrom_app r (n + 1) ((x, n) :: acc), cellsFrom_app r (n + 1) [(x, n)], List.append_assoc]; rfl
    · exact cellsFrom_app r n acc
theorem cellsFrom_mem : ∀ (names : List (Str × NameKind)) (n : Nat) (x : Str) (c : Addr), (x, c) ∈ cellsFrom n names [] → (x, NameKind.cell) ∈ names
  | [], _, _, _, h => by cases h
  | (y, k) :: r, n, x, c, h => by
    unfold cellsFrom at h
    split at h
    · rename_i hk
      rw [cellsFrom_app] at h
      rcases List.mem_append.mp h with q | q
      · exact List.mem_cons_of_mem _ (cellsFrom_mem r _ x c q)
      · cases List.mem_singleton.mp q
        have : k = .cell := by simpa using hk
        subst this
        exact List.mem_cons_self
    · exact List.mem_cons_of_mem _ (cellsFrom_mem r _ x c h)
theorem clos_ok {env : Env} {scope : Scope} (h : ∀ x ∈ scope.names, x.2 = .free → ∃ c, env.cells.lookup x.1 = some c) :
    ∃ cl, closureFor scope env = pure cl ∧ (∀ x c, cl.lookup x = some c → env.cells.lookup x = some c) ∧ ∀ x, (x, NameKind.free) ∈ scope.names → ∃ c, cl.lookup x = some c := by
  have key : ∀ (f : Str × NameKind → List (Str × Addr) → Sem (ForInStep (List (Str × Addr)))), (∀ n k cs, f (n, k) cs = if k == .free then (do let a ← cellOf env n; pure (ForInStep.yield ((n, a) :: cs))) else pure (ForInStep.yield cs)) →
      ∀ (names : List (Str × NameKind)) (acc : List (Str × Addr)), (∀ x ∈ names, x.2 = .free → ∃ c, env.cells.lookup x.1 = some c) → (∀ x c, acc.lookup x = some c → env.cells.lookup x = some c) →
      ∃ cl, (forIn names acc f : Sem (List (Str × Addr))) = pure cl ∧ (∀ x c, cl.lookup x = some c → env.cells.lookup x = some c) ∧
        (∀ x, (x, NameKind.free) ∈ names → ∃ c, cl.lookup x = some c) ∧ ∀ x, (∃ c, acc.lookup x = some c) → ∃ c, cl.lookup x = some c := by
    intro f hf names
    induction names with
    | nil => intro acc _ ha; exact ⟨acc, rfl, ha, fun x hx => (by cases hx), fun x q => q⟩
    | cons y r ih =>
      intro acc hn ha
      obtain ⟨n, k⟩ := y
      by_cases hk : k = .free
      · subst hk
        obtain ⟨c, hc⟩ := hn (n, .free) List.mem_cons_self rfl
        have hc' : env.cells.lookup n = some c := hc
        obtain ⟨cl, e1, e2, e3, e4⟩ := ih ((n, c) :: acc) (fun x hx => hn x (List.mem_cons_of_mem _ hx)) (fun x c' q => by
          rw [List.lookup_cons] at q
          by_cases hx : x = n
          · subst hx; simp at q; subst q; exact hc'
          · rw [beq_eq_false_iff_ne.mpr hx] at q; exact ha x c' q)
        refine ⟨cl, ?_, e2, fun x hx => ?_, fun x q => e4 x ?_⟩
        · rw [List.forIn_cons, hf]
          have ec : cellOf env n = pure c := by unfold cellOf; rw [hc']
          simp only [beq_self_eq_true, if_true, ec]
          exact e1
        · rcases List.mem_cons.mp hx with e | e
          · cases e; exact e4 n ⟨c, by simp [List.lookup_cons]⟩
          · exact e3 x e
        · obtain ⟨c', q⟩ := q
          by_cases hx : x = n
          · subst hx; exact ⟨c, by simp [List.lookup_cons]⟩
          · exact ⟨c', by rw [List.lookup_cons, beq_eq_false_iff_ne.mpr hx]; exact q⟩
      · obtain ⟨cl, e1, e2, e3, e4⟩ := ih acc (fun x hx => hn x (List.mem_cons_of_mem _ hx)) ha
        refine ⟨cl, ?_, e2, fun x hx => ?_, e4⟩
        · rw [List.forIn_cons, hf]
          have : (k == NameKind.free) = false := by simpa using hk
          simp only [this, Bool.false_eq_true, if_false]
          exact e1
        · rcases List.mem_cons.mp hx with e | e
          · cases e; exact absurd rfl hk
          · exact e3 x e
  unfold closureFor
  obtain ⟨cl, e1, e2, e3, _⟩ := key (fun x r => match x with | (name, kind) => if kind == .free then (do let a ← cellOf env name; pure (ForInStep.yield ((name, a) :: r))) else pure (ForInStep.yield r)) (fun _ _ _ => rfl) scope.names [] h (fun x c q => by cases q)
  refine ⟨cl, ?_, e2, e3⟩
  have e : ∀ (x : Sem (List (Str × Addr))), x = pure cl → (x >>= fun r => pure r) = pure cl := fun x q => by rw [q]; rfl
  exact e _ e1

noncomputable def compEnvN (scope : Scope) (C : Addr) (cells : List (Str × Addr)) (env : Env) : Env :=
  { scope := relabel scope env, locals := C, globals := env.globals, cells := cells, qual := env.qual, func := none, code := env.code, frame := env.frame, builtins := env.builtins }
noncomputable def Cx.comp (X : Cx) (scope : Scope) (N : List Str) (s : Shared) (H : Hp) (fp : List Addr) (cl : List (Str × Addr)) : Cx where
  prog := X.prog
  w := X.w
  K := X.K
  mg := X.mg
  base := X.base
  A := X.A
  N := N
  s₀ := s
  H₀ := H
  env := compEnvN scope s.heap.objs.size (cellsFrom (s.heap.objs.size + 1) scope.names cl) X.env
  outer := X.stack
  stack := X.stack
  ex := fp
  fn := fun x => decide (scope.names.lookup x = some .cell)
  calm := X.calm
  pn := []
  xe := fun _ _ => False
noncomputable def cst (n : Nat) (js : List Nat) (σ : St) : St := List.replicate n none ++ js.map fun j => (σ[j]?).join
theorem comp_start {X : Cx} {pins : List (Addr × Obj)} {σ : St} {H : Hp} {s : Shared} {scope : Scope} {tn fn : List Str} {js : List Nat} {fp : List Addr} {cl : List (Str × Addr)} (I : Inv X pins σ H s) (S : CompSc X.env.scope scope tn fn)
    (hj : js.map (fun j => X.N[j]?) = fn.map some) (hfp : ∀ b ∈ fp, FpOk X pins H b) (hlt : ∀ b ∈ fp, b < s.heap.objs.size)
    (hcl : ∀ x c, cl.lookup x = some c → X.env.cells.lookup x = some c) (hcl2 : ∀ x, (x, NameKind.free) ∈ scope.names → ∃ c, cl.lookup x = some c) :
    Inv (X.comp scope (tn ++ fn) s H fp cl) [] (cst tn.length js σ) H { s with heap := pushCells (s.heap.push { cls := .type "dict", data := .dict #[] }) scope.names } := by
  have hC := cellsFrom_ok scope.names (s.heap.push { cls := .type "dict", data := .dict #[] }) (s.heap.objs.size + 1) [] ⟨fun _ _ hm => (nomatch hm), List.Pairwise.nil⟩ (by rw [Heap.size_push]; exact Nat.le_refl _)
  rw [Heap.size_push] at hC
  have keep : ∀ b o, s.heap.get? b = some o → (pushCells (s.heap.push { cls := .type "dict", data := .dict #[] }) scope.names).get? b = some o := fun b o e => pushCells_keeps _ _ b o (Heap.get?_push_of_some _ e)
  have look : ∀ x c, (cellsFrom (s.heap.objs.size + 1) scope.names cl).lookup x = some c → ((x, c) ∈ cellsFrom (s.heap.objs.size + 1) scope.names []) ∨ X.env.cells.lookup x = some c := fun x c e => by
    rw [cellsFrom_app, List.lookup_append] at e
    cases q : (cellsFrom (s.heap.objs.size + 1) scope.names []).lookup x with
    | some c' => rw [q] at e; cases e; exact .inl (PySem.mem_of_lookup q)
    | none => rw [q] at e; exact .inr (hcl x c e)
  have outerLt : ∀ x c, X.env.cells.lookup x = some c → c < s.heap.objs.size := fun x c e => by
    obtain ⟨v, q⟩ := I.cell x c e
    exact q.lt
  have ownGe : ∀ x c, (x, c) ∈ cellsFrom (s.heap.objs.size + 1) scope.names [] → s.heap.objs.size + 1 ≤ c := fun x c e => (hC.empty x c e).2
  refine ⟨⟨I.ok.mod, S.kind, I.ok.glob, I.ok.blt, Nat.le_refl _, fun x y c h1 h2 => ?_, fun x hx => ?_, fun x c h1 h2 => ?_, I.ok.hd, I.ok.frames, .inl rfl, fun b hb => ⟨Nat.ne_of_lt (hlt b hb), fun x c e => ?_⟩, fun b o e => I.bs b o e, Nat.le_trans I.ok.bsz I.sz, fun b o e hb => ?_, fun b hb hz => ?_, I.stack, I.stkFree⟩,
    rfl, I.bare, Un.kept keep, ⟨fun _ => none, ?_, fun i x v h1 h2 h3 => ?_⟩, fun x c e => ?_, I.hok.fresh (Nat.le_refl _), fun x c e => ?_, fun p hp => ?_, I.hok.kept keep, ?_⟩
  · rcases look x c h1 with q | q <;> rcases look y c h2 with r | r
    · exact name_of_addr hC.apart q r
    · exact absurd (Nat.lt_trans (outerLt y c r) (ownGe x c q)) (Nat.lt_irrefl _)
    · exact absurd (Nat.lt_trans (outerLt x c q) (ownGe y c r)) (Nat.lt_irrefl _)
    · exact I.ok.inj x y c q r
  · have own : ∀ k, scope.names.lookup x = some k → k = .cell ∨ k = .free → ∃ c, (cellsFrom (s.heap.objs.size + 1) scope.names cl).lookup x = some c := fun k hk hkk => by
      refine Option.isSome_iff_exists.mp (PySem.W.cellsFrom_some _ _ _ ?_)
      rcases hkk with rfl | rfl
      · exact .inl hk
      · obtain ⟨c, q⟩ := hcl2 x (PySem.mem_of_lookup hk)
        exact .inr (by rw [q]; rfl)
    rcases hx with hx | hx
    · obtain ⟨k', e, q | q⟩ := relabel_kind (scope := scope) (env := X.env) hx
      · subst q; exact own _ e (.inl rfl)
      · exact own _ e (.inr q.1)
    · obtain ⟨k', e, q | q⟩ := relabel_kind (scope := scope) (env := X.env) hx
      · subst q; exact own _ e (.inr rfl)
      · cases q.2
  · have hc : scope.names.lookup x = some .cell := of_decide_eq_true h1
    rcases look x c h2 with q | q
    · exact Nat.le_of_lt (ownGe x c q)
    · exfalso
      have h2' : (cellsFrom (s.heap.objs.size + 1) scope.names cl).lookup x = some c := h2
      rw [cellsFrom_app, List.lookup_append] at h2'
      obtain ⟨c', q'⟩ := Option.isSome_iff_exists.mp (PySem.W.cellsFrom_some scope.names (s.heap.objs.size + 1) [] (.inl hc))
      rw [q'] at h2'
      cases h2'
      exact absurd (Nat.lt_trans (outerLt x c q) (ownGe x c (PySem.mem_of_lookup q'))) (Nat.lt_irrefl _)
  · rcases look x c e with q | q
    · intro z; subst z
      exact absurd (Nat.lt_trans (hlt c hb) (ownGe x c q)) (Nat.lt_irrefl _)
    · exact (hfp b hb).2.2.2.2.1 x c q
  · rcases (hfp b hb).2.2.2.1 with z | z
    · exact I.ok.noex b o e z
    · exact absurd (Nat.lt_of_lt_of_le (Heap.lt_size (I.ok.bs b o e).1) z) (Nat.lt_irrefl _)
  · rcases List.mem_cons.mp (I.stkSub b hz) with z | z
    · exact (hfp b hb).2.1 z
    · exact (hfp b hb).2.2.1 z
  · exact (Heap.Ns.new s.heap (.type "dict")).keeps (pushCells_keeps _ _)
  · unfold cst at h2
    by_cases hi : i < tn.length
    · rw [List.getElem?_append_left (by simpa using hi), List.getElem?_replicate, if_pos hi] at h2
      cases h2
    · rw [List.getElem?_append_right (by simpa using hi), List.length_replicate, List.getElem?_map] at h2
      cases ej : js[i - tn.length]? with
      | none => rw [ej] at h2; cases h2
      | some j =>
        rw [ej] at h2
        have h2' : (σ[j]?).join = some v := Option.some.inj h2
        have hσ : σ[j]? = some (some v) := by
          cases q : σ[j]? with
          | none => rw [q] at h2'; cases h2'
          | some o => rw [q] at h2'; cases o with
            | none => cases h2'
            | some v' => cases h2'; rfl
        have h1' : (tn ++ fn)[i]? = some x := h1
        rw [List.getElem?_append_right (by omega)] at h1'
        have hN : X.N[j]? = some x := by
          have e := congrArg (fun l => l[i - tn.length]?) hj
          simp only [List.getElem?_map, ej, h1', Option.map_some] at e
          exact Option.some.inj e
        have hfx : scope.names.lookup x = some .free := S.frees x (List.mem_of_getElem? h1')
        obtain ⟨m, hn, hl⟩ := I.loc
        have ok : X.env.scope.names.lookup x = some .cell ∨ X.env.scope.names.lookup x = some .free := S.free (x, .free) (PySem.mem_of_lookup hfx) rfl
        obtain ⟨u, r, l⟩ := hl j x v hN hσ (by rcases ok with z | z; exact .inr (.inl z); exact .inr (.inr z))
        refine ⟨u, r, .inr ⟨relabel_free hfx, ?_⟩⟩
        rcases l with ⟨k, _⟩ | ⟨_, c, ec, q⟩
        · have k' : X.env.scope.names.lookup x = some .local := k
          rcases ok with z | z <;> rw [z] at k' <;> cases k'
        · refine ⟨c, ?_, q.keeps keep⟩
          show (cellsFrom (s.heap.objs.size + 1) scope.names cl).lookup x = some c
          rw [cellsFrom_app, List.lookup_append]
          have e1 : (cellsFrom (s.heap.objs.size + 1) scope.names []).lookup x = none := by
            cases q1 : (cellsFrom (s.heap.objs.size + 1) scope.names []).lookup x with
            | none => rfl
            | some c1 =>
              have e2 := S.cell (x, .cell) (cellsFrom_mem _ _ _ _ (PySem.mem_of_lookup q1)) rfl
              have e2' : scope.names.lookup x = some .cell := e2
              rw [hfx] at e2'; cases e2'
          obtain ⟨c2, q2⟩ := hcl2 x (PySem.mem_of_lookup hfx)
          have := hcl x c2 q2
          rw [ec] at this
          cases this
          rw [e1, q2]; rfl
  · rcases look x c e with q | q
    · exact ⟨_, (hC.empty x c q).1⟩
    · obtain ⟨v, z⟩ := I.cell x c q
      exact ⟨v, z.keeps keep⟩
  · rcases look x c e with q | q
    · exact I.hok.fresh (Nat.le_of_lt (ownGe x c q))
    · exact I.freeC x c q
  · exact absurd (show p ∈ ([] : List (Addr × Obj)) from hp) (by simp)
  · unfold cst
    show _ = (tn ++ fn).length
    have : js.length = fn.length := by have := congrArg List.length hj; simpa using this
    rw [List.length_append, List.length_replicate, List.length_map, List.length_append, this]

section
variable {X : Cx} {pins : List (Addr × Obj)} {σ : L2.St} {H : Hp} {s : Shared} {h' : Heap}
theorem Inv.turnedL {t' : Nat} {ch : List Addr} (I : Inv X pins σ H s) (k : ∀ b o, b ∉ ch → s.heap.get? b = some o → h'.get? b = some o) (hf : ∀ b ∈ ch, FpOk X pins H b) : Inv X pins σ H { s with heap := h', toks := t' } := by
  have nit : ∀ b u, H b = some u → b ∉ ch := fun b u e z => by have := (hf b z).1; rw [e] at this; cases this
  refine I.step (g' := s.gens) (d' := s.drawn) (ch := ch) (fun b hb => ⟨(hf b hb).2.2.2.1, (hf b hb).2.1, (hf b hb).2.2.2.2.1, (hf b hb).2.2.2.2.2⟩) (fun b o _ _ hc e _ => k b o hc e) (fun b o _ _ hc e _ => ⟨o.slots, k b o hc e⟩) (fun _ _ _ _ n => n)
    (fun b o hc e => ⟨o, k b o hc e⟩) (fun _ _ e => e) (fun _ _ _ e => e) (fun b ps e => ⟨#[], by rw [e]; simp⟩) (fun m hm => ?_) (fun b u e => ?_) I.bare
  · obtain ⟨o, es, ep, ho, r⟩ := hm
    exact ⟨o, es, ep, k _ o (fun z => (hf _ z).2.1 rfl) ho, r⟩
  · refine (I.hok b u e).stay (fun c v hc q => k c v ?_ q) (fun _ q => q) fun _ _ q => q
    rcases hc with z | z
    · rw [z]; exact nit b u e
    · exact nit c _ z
theorem Inv.track {a : Addr} {o : HO} (I : Inv X pins σ H s) (hn : H a = none) (h0 : X.s₀.heap.objs.size ≤ a) (hL : a ≠ X.env.locals) (hc : ∀ x c, X.env.cells.lookup x = some c → c ≠ a) (hp : ∀ p ∈ X.pn ++ pins, p.1 ≠ a) (new : ObjOk X.prog X.w (upd H a o) s.heap a o) : Inv X pins σ (upd H a o) s := by
  have no0 : ∀ b ob, X.s₀.heap.get? b = some ob → b ≠ a := fun b ob e => Nat.ne_of_lt (Nat.lt_of_lt_of_le (Heap.lt_size e) h0)
  refine ⟨I.ok, I.os, I.bare, ⟨I.base.keep, I.base.slot, fun b ob q n hx => ?_, I.base.there, fun b xs q => ?_, fun b ob u q => ?_, fun b ps q => ?_⟩, I.loc, I.cell, ?_, fun x c e => ?_, fun p h => ?_, I.hok.track hn new, I.len⟩
  · rw [upd_ne (no0 b ob q)]; exact I.base.free b ob q n hx
  · have e := I.base.tups b xs q; rw [upd_ne (ne_of_none e hn)]; exact e
  · have e := I.base.frzs b ob u q; rw [upd_ne (ne_of_none e hn)]; exact e
  · obtain ⟨m, e⟩ := I.base.tbls b ps q; exact ⟨m, by rw [upd_ne (ne_of_none e hn)]; exact e⟩
  · rw [upd_ne (Ne.symm hL)]; exact I.free
  · rw [upd_ne (hc x c e)]; exact I.freeC x c e
  · obtain ⟨q1, q2, q3⟩ := I.pin p h
    exact ⟨q1, by rw [upd_ne (hp p h)]; exact q2, q3⟩
end
noncomputable def tTrue : TT := fun _ H Q => Q true H
noncomputable def tComp (wi : TI) (g : TG) (tt : TT) (te : TE) (n : Nat) (js : List Nat) : TE := fun σ H Q => wi σ H fun J H1 => ∀ D, H1 D = none → ∃ W : Nat → Nat → List V → St → Hp → Prop, (∃ m, W 0 m [] (cst n js σ) (upd H1 D (.lst []))) ∧ ∀ i m ys σ1 H2, W i m ys σ1 H2 →
  (J.stop i H2 ∧ Q (.ref D) H2) ∨ (J.go i H2 ∧ ∀ x H3, J.yld i H2 x H3 → g x σ1 H3 fun σ4 H4 => tt σ4 H4 fun b H5 => if b = true then te σ4 H5 fun y H6 => H6 D = some (.lst ys) ∧ ys.length < sizeLine ∧ ∃ m', m' < m ∧ W (i + 1) m' (ys ++ [y]) σ4 (upd H6 D (.lst (ys ++ [y]))) else ∃ m', m' < m ∧ W (i + 1) m' ys σ4 H5)
noncomputable def PTs (X : Cx) (ifs : List Expr) (t : TT) : Prop :=
  ∀ (pins : List (Addr × Obj)) (s : Shared) (σ : St) (H : Hp) (Q : Bool → Hp → Prop), Inv X pins σ H s → t σ H Q →
    wpAny (model X.prog X.w) X.A (forIn ifs true fun c r => if r = true then do let ok ← isTrue c X.env (eval c X.env); pure (ForInStep.yield ok) else pure (ForInStep.yield r)) (TP X pins σ Q) X.xe s
theorem pts_nil {X : Cx} : PTs X [] tTrue := fun _ _ _ H _ I h => wpAny_tests_nil ⟨H, I, h⟩
theorem pts_one {X : Cx} {c : Expr} {t : TT} (h : PT X c t) : PTs X [c] t := fun pins s σ H Q I q => wpAny_tests_one (h pins s σ H Q I q)
theorem comp_core {X : Cx} {elt tg iter : Expr} {ifs : List Expr} {scope : Scope} {pos pos' : Pos} {wi : TI} {g : TG} {tt : TT} {te : TE} {use : Option (Value → Sem Unit)} {Qc : Value → Shared → Prop} (tn fn : List Str) (js : List Nat) (hcalm : X.calm = true) (S : CompSc X.env.scope scope tn fn) (hj : js.map (fun j => X.N[j]?) = fn.map some) (hi : PI X tg iter wi)
    (hb : ∀ s H fp cl, PG (X.comp scope (tn ++ fn) s H fp cl) tg g ∧ PTs (X.comp scope (tn ++ fn) s H fp cl) ifs tt ∧ PE (X.comp scope (tn ++ fn) s H fp cl) elt te)
    (hs : ∀ x, foldedSetIterable iter X.env x = pure x) {pins : List (Addr × Obj)} {s : Shared} {σ : L2.St} {H : Hp} {Q : VK} (I : Inv X pins σ H s) (h : tComp wi g tt te tn.length js σ H Q)
    (fin : ∀ (D C : Addr) (s6 : Shared) (H5 : Hp) (m6 : Str → Option Value), s6.heap.Ns C m6 → FpOk X pins H5 C → Inv X pins σ H5 s6 → Q (.ref D) H5 → compPost (model X.prog X.w) X.A X.xe use Qc (.ref D) C (.ok .next) s6) :
    wpAny (model X.prog X.w) X.A (comprehension (.ListComp elt [⟨tg, iter, ifs, 0⟩] scope pos) scope X.env pos' (newList []) false (eval iter X.env) use) Qc X.xe s := by
  obtain ⟨cl, hclos, hcl, hcl2⟩ := clos_ok (env := X.env) (scope := scope) (fun x hx e => I.ok.has x.1 (S.free x hx e))
  refine wpAny_comprehension_free (use := use) rfl hs hclos S.kind S.loc (thn (hi pins s σ H _ I h) fun v s1 h1 => thn h1 fun itv s2 h2 => ?_)
  obtain ⟨it, fp, tn', J, H2, e, I2, T, st2, f2, k⟩ := h2
  subst e
  have hD : H2 s2.heap.objs.size = none := I2.fresh
  obtain ⟨W, ⟨m0, w0⟩, turn⟩ := k _ hD
  refine wpAny_newObj_type ?_
  have I3 : Inv X pins σ (upd H2 s2.heap.objs.size (.lst [])) { s2 with heap := s2.heap.push { cls := .type "list", data := .seq ([] : List Value).toArray } } := I2.lnew (t' := s2.toks) (ys := []) (its := []) .nil (Nat.zero_le _)
  generalize hs3 : ({ s2 with heap := s2.heap.push { cls := .type "list", data := .seq ([] : List Value).toArray } } : Shared) = s3 at I3
  have hs3' : s3.heap.objs.size = s2.heap.objs.size + 1 := by rw [← hs3]; exact Heap.size_push ..
  have up3 : ∀ b o, s2.heap.get? b = some o → s3.heap.get? b = some o := fun b o e => by rw [← hs3]; exact Heap.get?_push_of_some _ e
  have flt : ∀ b ∈ fp, b < s2.heap.objs.size := fun b hb => by
    obtain ⟨o, e, _⟩ := T.obj _ _ st2 b hb
    exact Heap.lt_size e
  generalize hDn : s2.heap.objs.size = D at *
  have f3 : ∀ b ∈ fp, FpOk X pins (upd H2 D (.lst [])) b := fun b hb => ⟨by rw [upd_ne (Nat.ne_of_lt (flt b hb))]; exact (f2 b hb).1, (f2 b hb).2⟩
  have flt3 : ∀ b ∈ fp, b < s3.heap.objs.size := fun b hb => by rw [hs3']; exact Nat.lt_succ_of_lt (flt b hb)
  have I4 := comp_start I3 S hj f3 flt3 hcl hcl2
  have st4 : tn' 0 (pushCells (s3.heap.push { cls := .type "dict", data := .dict #[] }) scope.names) := T.keep _ _ _ st2 fun b _ o e => pushCells_keeps _ _ b o (Heap.get?_push_of_some _ (up3 b o e))
  obtain ⟨pg, pt, pe⟩ := hb s3 (upd H2 D (.lst [])) fp cl
  generalize hX : X.comp scope (tn ++ fn) s3 (upd H2 D (.lst [])) fp cl = Y at I4 pg pt pe
  have Yp : Y.prog = X.prog := by rw [← hX]; rfl
  have Yw : Y.w = X.w := by rw [← hX]; rfl
  have YK : Y.K = X.K := by rw [← hX]; rfl
  have YA : Y.A = X.A := by rw [← hX]; rfl
  have Yc : Y.calm = true := by rw [← hX]; exact hcalm
  have Yxe : Y.xe = fun _ _ => False := by rw [← hX]; rfl
  have Yex : Y.ex = fp := by rw [← hX]; rfl
  have Yfs : Y.fs = frs X.stack := by rw [← hX]; rfl
  have Ypn : Y.pn = [] := by rw [← hX]; rfl
  have Ys : Y.s₀ = s3 := by rw [← hX]; rfl
  have YH : Y.H₀ = upd H2 D (.lst []) := by rw [← hX]; rfl
  have YC : Y.env.locals = s3.heap.objs.size := by rw [← hX]; rfl
  have Yenv : ({ scope := relabel scope X.env, locals := s3.heap.objs.size, globals := X.env.globals, cells := cellsFrom (s3.heap.objs.size + 1) scope.names cl, qual := X.env.qual, func := none, code := X.env.code, frame := X.env.frame, builtins := X.env.builtins } : Env) = Y.env := by rw [← hX]; rfl
  have stat : ∀ {H' : Hp}, (∀ b ∈ fp, H' b = none) → ∀ b ∈ fp, FpOk Y [] H' b := fun hn b hb => by
    refine ⟨hn b hb, ?_, ?_, .inl (by rw [Yex]; exact hb), fun x c e => (I4.ok.exf b (by rw [Yex]; exact hb)).2 x c e, fun p hp => ?_⟩
    · rw [YC]; exact Nat.ne_of_lt (flt3 b hb)
    · exact I4.ok.exfs b (by rw [Yex]; exact hb)
    · rw [Ypn] at hp; exact absurd (show p ∈ ([] : List (Addr × Obj)) from hp) (by simp)
  have loop : codeAny (model X.prog X.w) X.A (.compLoop (.ListComp elt [⟨tg, iter, ifs, 0⟩] scope pos) 0 (.ref it) (.ref D) Y.env) (compPost (model X.prog X.w) X.A X.xe use Qc (.ref D) s3.heap.objs.size)
      { s3 with heap := pushCells (s3.heap.push { cls := .type "dict", data := .dict #[] }) scope.names } := by
    refine codeAny_loop rfl (fun n s' => ∃ i ys σ' H', Inv Y [] σ' H' s' ∧ tn' i s'.heap ∧ (∀ b ∈ fp, H' b = none) ∧ W i n ys σ' H') (fun n s5 hI => ?_) m0 ⟨0, [], _, _, I4, st4, fun b hb => (f3 b hb).1, w0⟩
    obtain ⟨i, ys, σ5, H5, I5, st5, fr5, w5⟩ := hI
    show wpAny _ X.A ((compTurn (.ListComp elt [⟨tg, iter, ifs, 0⟩] scope pos) 0 (.ref it) (.ref D) Y.env).onRaise (fun x => do noteFrame x Y.env; theTreesLotGoes x)) _ _ s5
    refine wpAny_noted ?_
    rw [compTurn_list]
    refine wpAny_bind (wpAny_standAt (wpAny_bind ?_))
    rcases turn i n ys σ5 H5 w5 with ⟨stop, qn⟩ | ⟨go, step⟩
    · have d := T.done Y Yp Yw YK Yc i [] s5 σ5 H5 (fun _ _ => False) I5 (stat fr5) st5 stop
      rw [YA] at d
      refine wpAny_mono d (fun r s6 ⟨hr, I6⟩ => ?_) fun _ _ z => z.elim
      subst hr
      refine wpAny_pure ?_
      obtain ⟨m6, ns6, _⟩ := I6.loc
      rw [YC] at ns6
      have hC : H5 s3.heap.objs.size = none := by have := I6.free; rwa [YC] at this
      have u6 := I6.base
      rw [Yfs, Yex, YH, Ys] at u6
      have os6 := I6.os
      rw [Ys] at os6
      have hok6 := I6.hok
      rw [Yp, Yw] at hok6
      have IX : Inv X pins σ H5 s6 := I3.call' (s' := s6) os6 u6 hok6 I6.bare (fun b hb => ⟨(f3 b hb).2.2.2.1, (f3 b hb).2.1, (f3 b hb).2.2.2.2.1, (f3 b hb).2.2.2.2.2⟩)
      exact fin D s3.heap.objs.size s6 H5 m6 ns6 (I3.fpOk (H' := H5) (Nat.le_refl _) hC) IX qn
    · have d := T.item Y Yp Yw YK Yc i [] s5 σ5 H5 (fun _ _ => False) I5 (stat fr5) st5 go
      rw [YA] at d
      refine wpAny_mono d (fun r s6 ⟨u, hr, h6⟩ => ?_) fun _ _ z => z.elim
      subst hr
      refine wpAny_bind (wpAny_mono h6 (fun _ s7 ⟨x, H7, I7, r7, y7, st7, fr7⟩ => ?_) fun _ _ z => z.elim)
      have I7' := I7.pinned (stat fr7) (T.obj _ _ st7)
      have a8 := pg _ s7 σ5 H7 x u _ I7' r7 (step x H7 y7)
      rw [YA, Yp, Yw, Yxe] at a8
      refine wpAny_bind (wpAny_mono a8 (fun _ s8 ⟨σ8, H8, I8, q8⟩ => ?_) fun _ _ z => z.elim)
      have a9 := pt _ s8 σ8 H8 _ I8 q8
      rw [YA, Yp, Yw, Yxe] at a9
      have again : ∀ {H' : Hp} {s' : Shared} {ys' : List V} {m' : Nat}, m' < n → Inv Y ([] ++ pinsAt fp s7.heap) σ8 H' s' → W (i + 1) m' ys' σ8 H' → ∃ m, m < n ∧ ∃ i ys σ' H', Inv Y [] σ' H' s' ∧ tn' i s'.heap ∧ (∀ b ∈ fp, H' b = none) ∧ W i m ys σ' H' := fun {H' s' ys' m'} hm I' w' => by
        refine ⟨m', hm, i + 1, ys', σ8, H', I'.unpinned, T.keep _ _ _ st7 fun b hb o e => (I'.pin (b, o) (List.mem_append_right _ (List.mem_append_right _ (mem_pinsAt hb e)))).1, fun b hb => ?_, w'⟩
        obtain ⟨o, e, d⟩ := T.obj _ _ st7 b hb
        exact (I'.pin (b, o) (List.mem_append_right _ (List.mem_append_right _ (mem_pinsAt hb e)))).2.1
      refine wpAny_bind (wpAny_mono a9 (fun ok s9 ⟨H9, I9, q9⟩ => ?_) fun _ _ z => z.elim)
      cases ok with
      | false =>
        obtain ⟨m', hm, w9⟩ := q9
        exact wpAny_pure ⟨rfl, again hm I9 w9⟩
      | true =>
        have a10 := pe _ s9 σ8 H9 _ I9 q9
        rw [YA, Yp, Yw, Yxe] at a10
        refine wpAny_bind (wpAny_bind (wpAny_mono a10 (fun y10 s10 ⟨y, H10, I10, r10, e10, hz, m', hm, w10⟩ => ?_) fun _ _ z => z.elim))
        have a11 := mt_append (X := Y) _ s10 σ8 H10 (.ref D) [y] (.ref D) [y10] (fun _ H' => H' = upd H10 D (.lst (ys ++ [y]))) I10 rfl (.cons r10 .nil) ⟨D, ys, y, rfl, rfl, e10, hz, rfl⟩
        rw [YA, Yp, Yw, Yxe] at a11
        refine wpAny_bind (wpAny_mono a11 (fun _ s11 ⟨_, H11, I11, _, e11⟩ => ?_) fun _ _ z => z.elim)
        subst e11
        exact wpAny_pure (wpAny_pure ⟨rfl, again hm I11 w10⟩)
  -- the block's names
  have env4 : wpAny (model X.prog X.w) X.A (newFunctionEnv scope X.env.globals cl [] X.env.qual none .none (some X.env)) (fun cenv s₄ =>
      codeAny (model X.prog X.w) X.A (.compStart (.ListComp elt [⟨tg, iter, ifs, 0⟩] scope pos) 0 (.ref it) (.ref D) { cenv with scope := relabel scope X.env }) (compPost (model X.prog X.w) X.A X.xe use Qc (.ref D) cenv.locals) s₄) X.xe s3 := by
    simp only [newFunctionEnv, Option.isSome_some, if_true]
    refine wpAny_bind (wpAny_alloc ?_)
    refine wpAny_bind (wpAny_layCells _ (fun name kind cells => by cases hkc : kind == NameKind.cell <;> simp [hkc]) _ _ _ _ ?_)
    rw [List.forIn_nil]
    refine wpAny_bind (wpAny_pure (wpAny_pure ?_))
    rw [show ({ s3 with heap := s3.heap.push { cls := .type "dict", data := .dict #[] } } : Shared).heap.objs.size = s3.heap.objs.size + 1 from Heap.size_push ..]
    dsimp only
    rw [Yenv]
    exact codeAny_compStart_list loop (T.self _ 0 _ _ _ st4 loop)
  exact env4
theorem pe_comp {X : Cx} {elt tg iter : Expr} {ifs : List Expr} {scope : Scope} {pos : Pos} {wi : TI} {g : TG} {tt : TT} {te : TE} (tn fn : List Str) (js : List Nat) (hcalm : X.calm = true) (S : CompSc X.env.scope scope tn fn) (hj : js.map (fun j => X.N[j]?) = fn.map some) (hi : PI X tg iter wi)
    (hb : ∀ s H fp cl, PG (X.comp scope (tn ++ fn) s H fp cl) tg g ∧ PTs (X.comp scope (tn ++ fn) s H fp cl) ifs tt ∧ PE (X.comp scope (tn ++ fn) s H fp cl) elt te)
    (hs : ∀ x, foldedSetIterable iter X.env x = pure x := by intro _; rfl) :
    PE X (.ListComp elt [⟨tg, iter, ifs, 0⟩] scope pos) (tComp wi g tt te tn.length js) := by
  intro pins s σ H Q I h
  rw [eval_ListComp]
  refine comp_core (use := none) tn fn js hcalm S hj hi hb hs I h fun D C s6 H5 m6 ns6 hC I6 q => ⟨m6, ns6, fun h' sb => ⟨.ref D, H5, ?_, rfl, q⟩⟩
  exact I6.turnedL (t' := s6.toks) (ch := [C]) (fun b o hb e => sb.extBut b o (by simpa using hb) e) fun b hb => by
    have e : b = C := by simpa using hb
    subst e; exact hC
end L2
namespace L2
open PySem PySem.Spec PyProof.Rows
theorem RdVs.length {K : PySem.W.Frag} {H : Hp} {xs : List V} {ds : List PyData} (h : RdVs K H xs ds) : xs.length = ds.length := by
  induction xs generalizing ds with
  | nil => cases h; rfl
  | cons x xs ih => cases h with | cons a b => rw [List.length_cons, List.length_cons, ih b]
theorem RdVs.get {K : PySem.W.Frag} {H : Hp} {xs : List V} {ds : List PyData} {i : Nat} {d : PyData} (h : RdVs K H xs ds) (e : ds[i]? = some d) : ∃ x, xs[i]? = some x ∧ RdV K H x d := by
  induction xs generalizing ds i with
  | nil => cases h; simp at e
  | cons x xs ih =>
    cases h with
    | cons a b =>
      cases i with
      | zero => cases e; exact ⟨_, rfl, a⟩
      | succ i =>
        obtain ⟨x, h1, h2⟩ := ih b (i := i) (by simpa using e)
        exact ⟨x, by simpa using h1, h2⟩
theorem RdVs.append {K : PySem.W.Frag} {H : Hp} {xs ys : List V} {ds es : List PyData} (h : RdVs K H xs ds) (h' : RdVs K H ys es) : RdVs K H (xs ++ ys) (ds ++ es) := by
  induction xs generalizing ds with
  | nil => cases h; exact h'
  | cons x xs ih => cases h with | cons a b => exact .cons a (ih b)
theorem RdVs.set {K : PySem.W.Frag} {H : Hp} {x : V} {d : PyData} (h : RdV K H x d) {xs : List V} {ds : List PyData} (i : Nat) (r : RdVs K H xs ds) : RdVs K H (xs.set i x) (ds.set i d) := by
  induction xs generalizing ds i with
  | nil => cases r; exact .nil
  | cons y xs ih =>
    cases r with
    | cons a b =>
      cases i with
      | zero => exact .cons h b
      | succ i => exact .cons a (ih i b)
theorem RdVs.take {K : PySem.W.Frag} {H : Hp} {xs : List V} {ds : List PyData} (i : Nat) (r : RdVs K H xs ds) : RdVs K H (xs.take i) (ds.take i) := by
  induction xs generalizing ds i with
  | nil => cases r; rw [List.take_nil, List.take_nil]; exact .nil
  | cons y xs ih =>
    cases r with
    | cons a b =>
      cases i with
      | zero => exact .nil
      | succ i => exact .cons a (ih i b)
theorem RdVs.drop {K : PySem.W.Frag} {H : Hp} {xs : List V} {ds : List PyData} (i : Nat) (r : RdVs K H xs ds) : RdVs K H (xs.drop i) (ds.drop i) := by
  induction xs generalizing ds i with
  | nil => cases r; rw [List.drop_nil, List.drop_nil]; exact .nil
  | cons y xs ih =>
    cases r with
    | cons a b =>
      cases i with
      | zero => exact .cons a b
      | succ i => exact ih i b
theorem RdVs.eraseIdx {K : PySem.W.Frag} {H : Hp} {xs : List V} {ds : List PyData} (i : Nat) (r : RdVs K H xs ds) : RdVs K H (xs.eraseIdx i) (ds.eraseIdx i) := by
  induction xs generalizing ds i with
  | nil => cases r; exact .nil
  | cons y xs ih =>
    cases r with
    | cons a b =>
      cases i with
      | zero => exact b
      | succ i => exact .cons a (ih i b)
end L2
namespace L3
open PySem PySem.Spec PyProof.Rows L2
noncomputable abbrev D := PyData
inductive Cl where
  | sh (f : Bool) (d : D)
  | ow (f : Bool) (ds : List D)
  | tr (ps : List Addr) (ms : List (List D))
  | dt (ds : List (List Key × D))
  | ex (C : Addr)
noncomputable def Cl.d : Cl → D
  | .sh _ d => d
  | .ow _ ds => .list ds
  | .tr _ _ => .none
  | .dt _ => .none
  | .ex _ => .none
noncomputable def Cl.f : Cl → Bool
  | .sh f _ => f
  | .ow f _ => f
  | .tr _ _ => false
  | .dt _ => false
  | .ex _ => false
noncomputable def scal3 : D → Bool
  | .int _ => true | .bool _ => true | .str _ => true | .none => true | _ => false
noncomputable abbrev Env3 := List (Option Cl)
structure Gr (G H G' H' : Hp) : Prop where
  g : Same G G'
  h : Same H H'
  sub : Same G' H'
  new : ∀ b o, G' b = some o → G b = some o ∨ H b = none
theorem Gr.refl {G H : Hp} (s : Same G H) : Gr G H G H := ⟨Same.refl _, Same.refl _, s, fun _ _ e => .inl e⟩
theorem Gr.trans {G H G1 H1 G2 H2 : Hp} (a : Gr G H G1 H1) (b : Gr G1 H1 G2 H2) : Gr G H G2 H2 :=
  ⟨a.g.trans b.g, a.h.trans b.h, b.sub, fun c o e => by
    rcases b.new c o e with q | q
    · exact a.new c o q
    · exact .inr (a.h.free q)⟩
theorem Gr.put {G H : Hp} {p : Addr} {o : HO} (s : Same G H) (hp : H p = none) : Gr G H (upd G p o) (upd H p o) :=
  ⟨same_new (s.free hp) o, same_new hp o, fun b u e => by
    by_cases hb : b = p
    · subst hb; rw [upd_same] at e ⊢; exact e
    · rw [upd_ne hb] at e ⊢; exact s b u e, fun b u e => by
    by_cases hb : b = p
    · subst hb; exact .inr hp
    · rw [upd_ne hb] at e; exact .inl e⟩
theorem Gr.apart {G H : Hp} {p : Addr} {o : HO} (s : Same G H) (hp : H p = none) : Gr G H G (upd H p o) :=
  ⟨Same.refl _, same_new hp o, s.trans (same_new hp o), fun _ _ e => .inl e⟩
mutual
theorem rdv_same {K : PySem.W.Frag} {H H' : Hp} (e : Same H H') : ∀ {x : V} {d : D}, RdV K H x d → RdV K H' x d
  | _, _, .non => .non
  | _, _, .bl b => .bl b
  | _, _, .int i => .int i
  | _, _, .str x => .str x
  | _, _, .lst q r => .lst (e.seq q) (rdvs_same e r)
  | _, _, .tup q r => .tup (e.tup q) (rdvs_same e r)
theorem rdvs_same {K : PySem.W.Frag} {H H' : Hp} (e : Same H H') : ∀ {xs : List V} {ds : List D}, RdVs K H xs ds → RdVs K H' xs ds
  | _, _, .nil => .nil
  | _, _, .cons a b => .cons (rdv_same e a) (rdvs_same e b)
end
mutual
inductive RdN (K : PySem.W.Frag) (H0 G : Hp) : V → D → Prop
  | non : RdN K H0 G .non .none
  | bl (b) : RdN K H0 G (.bl b) (.bool b)
  | int (i) : RdN K H0 G (.int i) (.int i)
  | str (x) : RdN K H0 G (.str x) (.str x)
  | lst {a xs ds} : G a = some (.lst xs) → H0 a = none → RdNs K H0 G xs ds → RdN K H0 G (.ref a) (.list ds)
  | tup {a xs ds} : SqT K G a xs → RdNs K H0 G xs ds → RdN K H0 G (.ref a) (.tuple ds)
inductive RdNs (K : PySem.W.Frag) (H0 G : Hp) : List V → List D → Prop
  | nil : RdNs K H0 G [] []
  | cons {x xs d ds} : RdN K H0 G x d → RdNs K H0 G xs ds → RdNs K H0 G (x :: xs) (d :: ds)
end
mutual
theorem rdn_rd {K : PySem.W.Frag} {H0 G : Hp} : ∀ {x : V} {d : D}, RdN K H0 G x d → RdV K G x d
  | _, _, .non => .non
  | _, _, .bl b => .bl b
  | _, _, .int i => .int i
  | _, _, .str x => .str x
  | _, _, .lst q _ r => .lst (SqL.of q) (rdns_rd r)
  | _, _, .tup q r => .tup q (rdns_rd r)
theorem rdns_rd {K : PySem.W.Frag} {H0 G : Hp} : ∀ {xs : List V} {ds : List D}, RdNs K H0 G xs ds → RdVs K G xs ds
  | _, _, .nil => .nil
  | _, _, .cons a b => .cons (rdn_rd a) (rdns_rd b)
end
mutual
theorem rdn_mono {K : PySem.W.Frag} {H0 H1 G G' : Hp} (e : Same G G') (h : ∀ a o, G a = some o → H0 a = none → H1 a = none) : ∀ {x : V} {d : D}, RdN K H0 G x d → RdN K H1 G' x d
  | _, _, .non => .non
  | _, _, .bl b => .bl b
  | _, _, .int i => .int i
  | _, _, .str x => .str x
  | _, _, .lst q n r => .lst (e _ _ q) (h _ _ q n) (rdns_mono e h r)
  | _, _, .tup q r => .tup (e.tup q) (rdns_mono e h r)
theorem rdns_mono {K : PySem.W.Frag} {H0 H1 G G' : Hp} (e : Same G G') (h : ∀ a o, G a = some o → H0 a = none → H1 a = none) : ∀ {xs : List V} {ds : List D}, RdNs K H0 G xs ds → RdNs K H1 G' xs ds
  | _, _, .nil => .nil
  | _, _, .cons a b => .cons (rdn_mono e h a) (rdns_mono e h b)
end
theorem rdn_scal {K : PySem.W.Frag} {H0 G : Hp} {v : V} {d : D} (h : scal3 d = true) (r : RdV K G v d) : RdN K H0 G v d := by
  cases r with
  | non => exact .non
  | bl b => exact .bl b
  | int i => exact .int i
  | str s => exact .str s
  | lst _ _ => cases h
  | tup _ _ => cases h
structure Rf (K : PySem.W.Frag) (H0 G : Hp) (f : Bool) (v : V) (d : D) : Prop where
  rd : RdV K G v d
  nw : f = true → RdN K H0 G v d
structure Rfs (K : PySem.W.Frag) (H0 G : Hp) (f : Bool) (v : List V) (d : List D) : Prop where
  rd : RdVs K G v d
  nw : f = true → RdNs K H0 G v d
theorem Rf.same {K : PySem.W.Frag} {H0 G G' : Hp} {f : Bool} {v : V} {d : D} (r : Rf K H0 G f v d) (e : Same G G') : Rf K H0 G' f v d := ⟨rdv_same e r.rd, fun h => rdn_mono e (fun _ _ _ n => n) (r.nw h)⟩
theorem Rfs.same {K : PySem.W.Frag} {H0 G G' : Hp} {f : Bool} {v : List V} {d : List D} (r : Rfs K H0 G f v d) (e : Same G G') : Rfs K H0 G' f v d := ⟨rdvs_same e r.rd, fun h => rdns_mono e (fun _ _ _ n => n) (r.nw h)⟩
theorem Rf.sc {K : PySem.W.Frag} {H0 G : Hp} {f : Bool} {v : V} {d : D} (h : scal3 d = true) (r : RdV K G v d) : Rf K H0 G f v d := ⟨r, fun _ => rdn_scal h r⟩
theorem Rf.no {K : PySem.W.Frag} {H0 G : Hp} {v : V} {d : D} (r : RdV K G v d) : Rf K H0 G false v d := ⟨r, fun h => by cases h⟩
theorem Rf.or {K : PySem.W.Frag} {H0 G : Hp} {f : Bool} {v : V} {d : D} (r : Rf K H0 G f v d) : Rf K H0 G (f || scal3 d) v d := ⟨r.rd, fun h => by
  cases f with
  | true => exact r.nw rfl
  | false => exact rdn_scal (by simpa using h) r.rd⟩
theorem Rfs.nil {K : PySem.W.Frag} {H0 G : Hp} {f : Bool} : Rfs K H0 G f [] [] := ⟨.nil, fun _ => .nil⟩
theorem Rfs.cons {K : PySem.W.Frag} {H0 G : Hp} {f g : Bool} {v : V} {d : D} {vs : List V} {ds : List D} (r : Rf K H0 G f v d) (rs : Rfs K H0 G g vs ds) : Rfs K H0 G (f && g) (v :: vs) (d :: ds) := ⟨.cons r.rd rs.rd, fun h => by
  rw [Bool.and_eq_true] at h
  exact .cons (r.nw h.1) (rs.nw h.2)⟩
theorem rdns_get {K : PySem.W.Frag} {H0 H : Hp} {xs : List V} {ds : List D} {i : Nat} {x : V} {d : D} (r : RdNs K H0 H xs ds) (e : xs[i]? = some x) (e' : ds[i]? = some d) : RdN K H0 H x d := by
  induction xs generalizing ds i with
  | nil => simp at e
  | cons y xs ih =>
    cases r with
    | cons a b =>
      cases i with
      | zero => cases e; cases e'; exact a
      | succ i => exact ih b (i := i) (by simpa using e) (by simpa using e')
theorem Rfs.get {K : PySem.W.Frag} {H0 G : Hp} {f : Bool} {vs : List V} {ds : List D} {i : Nat} {d : D} (r : Rfs K H0 G f vs ds) (h : ds[i]? = some d) : ∃ v, vs[i]? = some v ∧ Rf K H0 G f v d := by
  obtain ⟨v, h1, h2⟩ := r.rd.get h
  exact ⟨v, h1, h2, fun hf => rdns_get (r.nw hf) h1 h⟩
theorem rdns_scal {K : PySem.W.Frag} {H0 G : Hp} {vs : List V} {ds : List D} (h : ds.all scal3 = true) (r : RdVs K G vs ds) : RdNs K H0 G vs ds := by
  induction vs generalizing ds with
  | nil => cases r; exact .nil
  | cons v vs ih =>
    cases r with
    | cons a b =>
      rw [List.all_cons, Bool.and_eq_true] at h
      exact .cons (rdn_scal h.1 a) (ih h.2 b)
theorem Rfs.or {K : PySem.W.Frag} {H0 G : Hp} {f : Bool} {vs : List V} {ds : List D} (r : Rfs K H0 G f vs ds) : Rfs K H0 G (f || ds.all scal3) vs ds := ⟨r.rd, fun h => by
  cases f with
  | true => exact r.nw rfl
  | false => exact rdns_scal (by simpa using h) r.rd⟩
theorem Rfs.length {K : PySem.W.Frag} {H0 G : Hp} {f : Bool} {vs : List V} {ds : List D} (r : Rfs K H0 G f vs ds) : vs.length = ds.length := r.rd.length
theorem rdns_append {K : PySem.W.Frag} {H0 H : Hp} {xs ys : List V} {ds es : List D} (h : RdNs K H0 H xs ds) (h' : RdNs K H0 H ys es) : RdNs K H0 H (xs ++ ys) (ds ++ es) := by
  induction xs generalizing ds with
  | nil => cases h; exact h'
  | cons x xs ih => cases h with | cons a b => exact .cons a (ih b)
theorem rdns_set {K : PySem.W.Frag} {H0 H : Hp} {x : V} {d : D} (h : RdN K H0 H x d) {xs : List V} {ds : List D} (i : Nat) (r : RdNs K H0 H xs ds) : RdNs K H0 H (xs.set i x) (ds.set i d) := by
  induction xs generalizing ds i with
  | nil => cases r; exact .nil
  | cons y xs ih =>
    cases r with
    | cons a b =>
      cases i with
      | zero => exact .cons h b
      | succ i => exact .cons a (ih i b)
theorem rdns_take {K : PySem.W.Frag} {H0 H : Hp} {xs : List V} {ds : List D} (i : Nat) (r : RdNs K H0 H xs ds) : RdNs K H0 H (xs.take i) (ds.take i) := by
  induction xs generalizing ds i with
  | nil => cases r; rw [List.take_nil, List.take_nil]; exact .nil
  | cons y xs ih =>
    cases r with
    | cons a b =>
      cases i with
      | zero => exact .nil
      | succ i => exact .cons a (ih i b)
theorem rdns_drop {K : PySem.W.Frag} {H0 H : Hp} {xs : List V} {ds : List D} (i : Nat) (r : RdNs K H0 H xs ds) : RdNs K H0 H (xs.drop i) (ds.drop i) := by
  induction xs generalizing ds i with
  | nil => cases r; rw [List.drop_nil, List.drop_nil]; exact .nil
  | cons y xs ih =>
    cases r with
    | cons a b =>
      cases i with
      | zero => exact .cons a b
      | succ i => exact ih i b
theorem rdns_erase {K : PySem.W.Frag} {H0 H : Hp} {xs : List V} {ds : List D} (i : Nat) (r : RdNs K H0 H xs ds) : RdNs K H0 H (xs.eraseIdx i) (ds.eraseIdx i) := by
  induction xs generalizing ds i with
  | nil => cases r; exact .nil
  | cons y xs ih =>
    cases r with
    | cons a b =>
      cases i with
      | zero => exact b
      | succ i => exact .cons a (ih i b)
theorem Rfs.snoc {K : PySem.W.Frag} {H0 G : Hp} {f g : Bool} {v : V} {d : D} {vs : List V} {ds : List D} (rs : Rfs K H0 G g vs ds) (r : Rf K H0 G f v d) : Rfs K H0 G (g && f) (vs ++ [v]) (ds ++ [d]) := ⟨rs.rd.append (.cons r.rd .nil), fun h => by
  rw [Bool.and_eq_true] at h
  exact rdns_append (rs.nw h.1) (.cons (r.nw h.2) .nil)⟩
theorem Rfs.append {K : PySem.W.Frag} {H0 G : Hp} {f g : Bool} {us : List V} {es : List D} {vs : List V} {ds : List D} (rs : Rfs K H0 G g vs ds) (r : Rfs K H0 G f us es) : Rfs K H0 G (g && f) (vs ++ us) (ds ++ es) := ⟨rs.rd.append r.rd, fun h => by
  rw [Bool.and_eq_true] at h
  exact rdns_append (rs.nw h.1) (r.nw h.2)⟩
theorem Rfs.set {K : PySem.W.Frag} {H0 G : Hp} {f g : Bool} {v : V} {d : D} {vs : List V} {ds : List D} (rs : Rfs K H0 G g vs ds) (r : Rf K H0 G f v d) (i : Nat) : Rfs K H0 G (g && f) (vs.set i v) (ds.set i d) := ⟨rs.rd.set r.rd i, fun h => by
  rw [Bool.and_eq_true] at h
  exact rdns_set (r.nw h.2) i (rs.nw h.1)⟩
theorem Rfs.take {K : PySem.W.Frag} {H0 G : Hp} {g : Bool} {vs : List V} {ds : List D} (rs : Rfs K H0 G g vs ds) (i : Nat) : Rfs K H0 G g (vs.take i) (ds.take i) := ⟨rs.rd.take i, fun h => rdns_take i (rs.nw h)⟩
theorem Rfs.drop {K : PySem.W.Frag} {H0 G : Hp} {g : Bool} {vs : List V} {ds : List D} (rs : Rfs K H0 G g vs ds) (i : Nat) : Rfs K H0 G g (vs.drop i) (ds.drop i) := ⟨rs.rd.drop i, fun h => rdns_drop i (rs.nw h)⟩
theorem Rfs.eraseIdx {K : PySem.W.Frag} {H0 G : Hp} {g : Bool} {vs : List V} {ds : List D} (rs : Rfs K H0 G g vs ds) (i : Nat) : Rfs K H0 G g (vs.eraseIdx i) (ds.eraseIdx i) := ⟨rs.rd.eraseIdx i, fun h => rdns_erase i (rs.nw h)⟩
structure Tr (K : PySem.W.Frag) (H0 G H : Hp) (l : Addr) (ps : List Addr) (ms : List (List D)) : Prop where
  top : H l = some (.lst (ps.map V.ref))
  topG : G l = none
  nd : (l :: ps).Nodup
  len : ps.length = ms.length
  item : ∀ (k : Nat) (p : Addr) (m : List D), ps[k]? = some p → ms[k]? = some m → ∃ vs, H p = some (.lst vs) ∧ G p = none ∧ Rfs K H0 G true vs m
inductive Dr (K : PySem.W.Frag) (H0 G : Hp) : List (List Key × V) → List (List Key × D) → Prop
  | nil : Dr K H0 G [] []
  | cons {k v d kvs ds} : Rf K H0 G true v d → Dr K H0 G kvs ds → Dr K H0 G ((k, v) :: kvs) ((k, d) :: ds)
theorem Dr.same {K : PySem.W.Frag} {H0 G G' : Hp} {kvs : List (List Key × V)} {ds : List (List Key × D)} (r : Dr K H0 G kvs ds) (e : Same G G') : Dr K H0 G' kvs ds := by
  induction r with
  | nil => exact .nil
  | cons a b ih => exact .cons (a.same e) ih
inductive Vw (K : PySem.W.Frag) (H0 G H : Hp) : V → Cl → Prop
  | sh {v f d} : Rf K H0 G f v d → Vw K H0 G H v (.sh f d)
  | ow {l vs f ds} : H l = some (.lst vs) → Rfs K H0 G f vs ds → G l = none → Vw K H0 G H (.ref l) (.ow f ds)
  | tr {l ps ms} : Tr K H0 G H l ps ms → Vw K H0 G H (.ref l) (.tr ps ms)
  | dt {l kvs ds} : H l = some (.dT kvs) → Dr K H0 G kvs ds → G l = none → Vw K H0 G H (.ref l) (.dt ds)
  | ex {l C} : H l = some (excO l C) → Vw K H0 G H (.ref l) (.ex C)
noncomputable def Cl.dat : Cl → Bool
  | .ex _ => false
  | .tr _ _ => false
  | .dt _ => false
  | _ => true
noncomputable def Has : Cl → V → Addr → Prop
  | .ow _ _, v, a => v = .ref a
  | .tr ps _, v, a => v = .ref a ∨ a ∈ ps
  | .dt _, v, a => v = .ref a
  | _, _, _ => False
theorem Tr.at {K : PySem.W.Frag} {H0 G H : Hp} {l : Addr} {ps : List Addr} {ms : List (List D)} (t : Tr K H0 G H l ps ms) {p : Addr} (h : p ∈ ps) : ∃ m vs, H p = some (.lst vs) ∧ G p = none ∧ Rfs K H0 G true vs m := by
  obtain ⟨k, hk, e⟩ := List.getElem_of_mem h
  have hk' : k < ms.length := by rw [← t.len]; exact hk
  obtain ⟨vs, h1⟩ := t.item k p ms[k] (by rw [← e]; exact List.getElem?_eq_getElem hk) (List.getElem?_eq_getElem hk')
  exact ⟨_, vs, h1⟩
theorem Vw.has {K : PySem.W.Frag} {H0 G H : Hp} {v : V} {c : Cl} {a : Addr} (w : Vw K H0 G H v c) (h : Has c v a) : (∃ o, H a = some o ∧ ∀ C, o ≠ excO a C) ∧ G a = none := by
  cases w with
  | sh r => exact False.elim h
  | ex e => exact False.elim h
  | ow e r n => cases h; exact ⟨⟨_, e, fun C z => by cases z⟩, n⟩
  | dt e r n => cases h; exact ⟨⟨_, e, fun C z => by cases z⟩, n⟩
  | tr t =>
    rcases h with h | h
    · cases h; exact ⟨⟨_, t.top, fun C z => by cases z⟩, t.topG⟩
    · obtain ⟨m, vs, h1, h2, _⟩ := t.at h
      exact ⟨⟨_, h1, fun C z => by cases z⟩, h2⟩
theorem Vw.turn {K : PySem.W.Frag} {H0 G H G' H' : Hp} {v : V} {c : Cl} (w : Vw K H0 G H v c) (g : Same G G') (hx : ∀ a C, H a = some (excO a C) → H' a = some (excO a C)) (hh : ∀ a, Has c v a → H' a = H a ∧ G' a = G a) : Vw K H0 G' H' v c := by
  cases w with
  | sh r => exact .sh (r.same g)
  | ex h => exact .ex (hx _ _ h)
  | ow h r n =>
    obtain ⟨h1, h2⟩ := hh _ rfl
    exact .ow (h1.trans h) (r.same g) (h2.trans n)
  | dt h r n =>
    obtain ⟨h1, h2⟩ := hh _ rfl
    exact .dt (h1.trans h) (r.same g) (h2.trans n)
  | tr t =>
    obtain ⟨h1, h2⟩ := hh _ (.inl rfl)
    refine .tr ⟨h1.trans t.top, h2.trans t.topG, t.nd, t.len, fun k p m hp hm => ?_⟩
    obtain ⟨vs, q1, q2, q3⟩ := t.item k p m hp hm
    obtain ⟨h3, h4⟩ := hh p (.inr (List.mem_of_getElem? hp))
    exact ⟨vs, h3.trans q1, h4.trans q2, q3.same g⟩
theorem Gr.hid {G H G' H' : Hp} (g : Gr G H G' H') {l : Addr} {o : HO} (h : H l = some o) (n : G l = none) : G' l = none := by
  cases e : G' l with
  | none => rfl
  | some o =>
    rcases g.new _ _ e with q | q
    · rw [n] at q; cases q
    · rw [h] at q; cases q
theorem Vw.gr {K : PySem.W.Frag} {H0 G H G' H' : Hp} {v : V} {c : Cl} (w : Vw K H0 G H v c) (g : Gr G H G' H') : Vw K H0 G' H' v c :=
  w.turn g.g (fun a C e => g.h _ _ e) fun a h => by
    obtain ⟨⟨o, e, _⟩, n⟩ := w.has h
    exact ⟨(g.h _ _ e).trans e.symm, (g.hid e n).trans n.symm⟩
theorem Vw.rd {K : PySem.W.Frag} {H0 G H : Hp} {v : V} {c : Cl} (w : Vw K H0 G H v c) (s : Same G H) (hc : c.dat = true) : RdV K H v c.d := by
  cases w with
  | sh r => exact rdv_same s r.rd
  | ow h r n => exact .lst (SqL.of h) (rdvs_same s r.rd)
  | tr t => cases hc
  | dt _ _ _ => cases hc
  | ex h => cases hc
inductive Vws (K : PySem.W.Frag) (H0 G H : Hp) : List V → List Cl → Prop
  | nil : Vws K H0 G H [] []
  | cons {v c vs cs} : Vw K H0 G H v c → Vws K H0 G H vs cs → Vws K H0 G H (v :: vs) (c :: cs)
theorem Vws.gr {K : PySem.W.Frag} {H0 G H G' H' : Hp} (g : Gr G H G' H') {vs : List V} {cs : List Cl} (h : Vws K H0 G H vs cs) : Vws K H0 G' H' vs cs := by
  induction h with
  | nil => exact .nil
  | cons a b ih => exact .cons (a.gr g) ih
noncomputable def shs : List Cl → Option (Bool × List D)
  | [] => some (true, [])
  | .sh f d :: r => (shs r).map fun p => ((f && p.1), d :: p.2)
  | .ow _ _ :: _ => none
  | .tr _ _ :: _ => none
  | .dt _ :: _ => none
  | .ex _ :: _ => none
theorem Vws.shs {K : PySem.W.Frag} {H0 G H : Hp} {vs : List V} {cs : List Cl} {p : Bool × List D} (h : Vws K H0 G H vs cs) (e : shs cs = some p) : Rfs K H0 G p.1 vs p.2 := by
  induction h generalizing p with
  | nil => cases e; exact .nil
  | cons a b ih =>
    cases a with
    | sh r =>
      unfold L3.shs at e
      rename_i cs' f d
      cases q : L3.shs cs' with
      | none => rw [q] at e; cases e
      | some ds => rw [q] at e; cases e; exact .cons r (ih q)
    | ow _ _ _ => cases e
    | tr _ => cases e
    | dt _ _ _ => cases e
    | ex _ => cases e
theorem Vws.rds {K : PySem.W.Frag} {H0 G H : Hp} (s : Same G H) {vs : List V} {cs : List Cl} (h : Vws K H0 G H vs cs) (hd : cs.all Cl.dat = true) : RdVs K H vs (cs.map Cl.d) := by
  induction h with
  | nil => exact .nil
  | cons a b ih =>
    rw [List.all_cons, Bool.and_eq_true] at hd
    exact .cons (a.rd s hd.1) (ih hd.2)
structure Fr3 (K : PySem.W.Frag) (H0 G0 : Hp) (ρ : Env3) (σ : L2.St) (G H : Hp) : Prop where
  keep : Same H0 H
  sub : Same G H
  old : ∀ b o, G b = some o → G0 b = some o ∨ H0 b = none
  g0 : Same G0 G
  slot : ∀ (i : Nat) (c : Cl), ρ[i]? = some (some c) → ∃ v, σ[i]? = some (some v) ∧ Vw K H0 G H v c
  mine : ∀ (i : Nat) (c : Cl) (v : V) (a : Addr), ρ[i]? = some (some c) → σ[i]? = some (some v) → Has c v a → H0 a = none
  apart : ∀ (i j : Nat) (c c' : Cl) (v v' : V) (a : Addr), ρ[i]? = some (some c) → ρ[j]? = some (some c') → σ[i]? = some (some v) → σ[j]? = some (some v') → Has c v a → Has c' v' a → i = j
  len : ρ.length = σ.length
section
variable {K : PySem.W.Frag} {H0 G0 : Hp} {ρ : Env3} {σ : L2.St} {G H G' H' : Hp}
theorem Fr3.gr (F : Fr3 K H0 G0 ρ σ G H) (g : Gr G H G' H') : Fr3 K H0 G0 ρ σ G' H' where
  keep := F.keep.trans g.h
  sub := g.sub
  old := fun b o e => by
    rcases g.new b o e with q | q
    · exact F.old b o q
    · exact .inr (F.keep.free q)
  g0 := F.g0.trans g.g
  slot := fun i c e => by
    obtain ⟨v, h1, h2⟩ := F.slot i c e
    exact ⟨v, h1, h2.gr g⟩
  mine := F.mine
  apart := F.apart
  len := F.len
theorem get_set {α : Type} {l : List α} {i j : Nat} {x y : α} (h : (l.set i x)[j]? = some y) : (i = j ∧ y = x ∧ i < l.length) ∨ (i ≠ j ∧ l[j]? = some y) := by
  by_cases e : i = j
  · subst e
    rw [List.getElem?_set_self'] at h
    cases q : l[i]? with
    | none => rw [q] at h; cases h
    | some z =>
      rw [q] at h
      cases h
      exact .inl ⟨rfl, rfl, (List.getElem?_eq_some_iff.mp q).1⟩
  · rw [List.getElem?_set_ne e] at h
    exact .inr ⟨e, h⟩
theorem Fr3.vw (F : Fr3 K H0 G0 ρ σ G H) {i : Nat} {c : Cl} {v : V} (h : ρ[i]? = some (some c)) (h' : σ[i]? = some (some v)) : Vw K H0 G H v c := by
  obtain ⟨u, h1, h2⟩ := F.slot i c h
  rw [h'] at h1; cases h1
  exact h2
theorem Fr3.put (F : Fr3 K H0 G0 ρ σ G H) {i : Nat} {v : V} {c : Cl} (s : Same H H') (w : Vw K H0 G H' v c) (hn : ∀ a, Has c v a → H a = none) : Fr3 K H0 G0 (ρ.set i (some c)) (σ.set i (some v)) G H' := by
  have F' := F.gr (G' := G) (H' := H') ⟨Same.refl _, s, F.sub.trans s, fun _ _ e => .inl e⟩
  have ne : ∀ (j : Nat) (c' : Cl) (v' : V) (a : Addr), ρ[j]? = some (some c') → σ[j]? = some (some v') → Has c' v' a → Has c v a → False := fun j c' v' a e e' h h' => by
    obtain ⟨⟨o, q, _⟩, _⟩ := (F.vw e e').has h
    rw [hn a h'] at q; cases q
  exact {
    keep := F'.keep
    sub := F'.sub
    old := F'.old
    g0 := F'.g0
    slot := fun j c' e => by
      rcases get_set e with ⟨rfl, q, hl⟩ | ⟨n, q⟩
      · cases q
        exact ⟨v, by rw [List.getElem?_set_self (by rw [← F.len]; exact hl)], w⟩
      · obtain ⟨v', h1, h2⟩ := F'.slot j c' q
        exact ⟨v', by rw [List.getElem?_set_ne n]; exact h1, h2⟩
    mine := fun j c' v' a e e' h => by
      rcases get_set e with ⟨rfl, q, hl⟩ | ⟨n, q⟩
      · cases q
        rw [List.getElem?_set_self (by rw [← F.len]; exact hl)] at e'
        cases e'
        exact F.keep.free (hn a h)
      · rw [List.getElem?_set_ne n] at e'
        exact F.mine j c' v' a q e' h
    apart := fun j k c1 c2 v1 v2 a e1 e2 e3 e4 h1 h2 => by
      rcases get_set e1 with ⟨rfl, q, hl⟩ | ⟨n, q⟩
      · rcases get_set e2 with ⟨rfl, q', hl'⟩ | ⟨n', q'⟩
        · rfl
        · cases q
          rw [List.getElem?_set_self (by rw [← F.len]; exact hl)] at e3
          cases e3
          rw [List.getElem?_set_ne n'] at e4
          exact (ne k c2 v2 a q' e4 h2 h1).elim
      · rcases get_set e2 with ⟨rfl, q', hl'⟩ | ⟨n', q'⟩
        · cases q'
          rw [List.getElem?_set_self (by rw [← F.len]; exact hl')] at e4
          cases e4
          rw [List.getElem?_set_ne n] at e3
          exact (ne j c1 v1 a q e3 h1 h2).elim
        · rw [List.getElem?_set_ne n] at e3
          rw [List.getElem?_set_ne n'] at e4
          exact F.apart j k c1 c2 v1 v2 a q q' e3 e4 h1 h2
    len := by rw [List.length_set, List.length_set]; exact F.len }
theorem Fr3.set (F : Fr3 K H0 G0 ρ σ G H) {i : Nat} {v : V} {f : Bool} {d : D} (r : Rf K H0 G f v d) : Fr3 K H0 G0 (ρ.set i (some (.sh f d))) (σ.set i (some v)) G H := F.put (Same.refl _) (.sh r) fun _ h => False.elim h
theorem Fr3.drop (F : Fr3 K H0 G0 ρ σ G H) {i : Nat} : Fr3 K H0 G0 (ρ.set i none) σ G H where
  keep := F.keep
  sub := F.sub
  old := F.old
  g0 := F.g0
  slot := fun j c e => by
    rcases get_set e with ⟨rfl, q, hl⟩ | ⟨n, q⟩
    · cases q
    · exact F.slot j c q
  mine := fun j c v a e e' h => by
    rcases get_set e with ⟨rfl, q, hl⟩ | ⟨n, q⟩
    · cases q
    · exact F.mine j c v a q e' h
  apart := fun j k c1 c2 v1 v2 a e1 e2 e3 e4 h1 h2 => by
    rcases get_set e1 with ⟨rfl, q, hl⟩ | ⟨n, q⟩
    · cases q
    · rcases get_set e2 with ⟨rfl, q', hl⟩ | ⟨n', q'⟩
      · cases q'
      · exact F.apart j k c1 c2 v1 v2 a q q' e3 e4 h1 h2
  len := by rw [List.length_set]; exact F.len
theorem Fr3.own (F : Fr3 K H0 G0 ρ σ G H) {i : Nat} {l : Addr} {vs : List V} {f : Bool} {ds : List D} (r : Rfs K H0 G f vs ds) (hl : H l = none) : Fr3 K H0 G0 (ρ.set i (some (.ow f ds))) (σ.set i (some (.ref l))) G (upd H l (.lst vs)) :=
  F.put (same_new hl _) (.ow upd_same r (F.sub.free hl)) fun a h => by cases h; exact hl
theorem Fr3.chg (F : Fr3 K H0 G0 ρ σ G H) {i : Nat} {l : Addr} {o : HO} {c c' : Cl} {v : V} (hi : ρ[i]? = some (some c)) (hv : σ[i]? = some (some v)) (hl : Has c v l) (hc : ∀ a, Has c' v a → Has c v a) (w : Vw K H0 G (upd H l o) v c') : Fr3 K H0 G0 (ρ.set i (some c')) σ G (upd H l o) := by
  have h0 : H0 l = none := F.mine i c v l hi hv hl
  obtain ⟨⟨us, hu, hux⟩, gl⟩ := (F.vw hi hv).has hl
  refine ⟨fun b o e => by rw [upd_ne (ne_of_none e h0)]; exact F.keep b o e, fun b o e => by rw [upd_ne (ne_of_none e gl)]; exact F.sub b o e, F.old, F.g0, fun j c2 e => ?_, fun j c2 v2 a e e' h => ?_, fun j k c1 c2 v1 v2 a e1 e2 e3 e4 h1 h2 => ?_, by rw [List.length_set]; exact F.len⟩
  · rcases get_set e with ⟨rfl, q, _⟩ | ⟨n, q⟩
    · cases q
      exact ⟨v, hv, w⟩
    · obtain ⟨v', h1, h2⟩ := F.slot j c2 q
      refine ⟨v', h1, h2.turn (Same.refl _) (fun a C e => ?_) fun a h => ⟨?_, rfl⟩⟩
      · rw [upd_ne (fun z => by subst z; rw [hu] at e; exact hux C (Option.some.inj e))]; exact e
      · rw [upd_ne (fun z => by subst z; exact n (F.apart i j c c2 v v' a hi q hv h1 hl h))]
  · rcases get_set e with ⟨rfl, q, _⟩ | ⟨n, q⟩
    · cases q
      rw [hv] at e'; cases e'
      exact F.mine i c v a hi hv (hc a h)
    · exact F.mine j c2 v2 a q e' h
  · rcases get_set e1 with ⟨rfl, q, _⟩ | ⟨n, q⟩
    · rcases get_set e2 with ⟨rfl, q', _⟩ | ⟨n', q'⟩
      · rfl
      · cases q
        rw [hv] at e3; cases e3
        exact F.apart i k c c2 v v2 a hi q' hv e4 (hc a h1) h2
    · rcases get_set e2 with ⟨rfl, q', _⟩ | ⟨n', q'⟩
      · cases q'
        rw [hv] at e4; cases e4
        exact F.apart j i c1 c v1 v a q hi e3 hv h1 (hc a h2)
      · exact F.apart j k c1 c2 v1 v2 a q q' e3 e4 h1 h2
theorem Fr3.change (F : Fr3 K H0 G0 ρ σ G H) {i : Nat} {l : Addr} {vs : List V} {f f' : Bool} {ds es : List D} (hi : ρ[i]? = some (some (.ow f ds))) (hl : σ[i]? = some (some (.ref l))) (r : Rfs K H0 G f' vs es) : Fr3 K H0 G0 (ρ.set i (some (.ow f' es))) σ G (upd H l (.lst vs)) :=
  F.chg hi hl rfl (fun _ h => h) (.ow upd_same r ((F.vw hi hl).has rfl).2)
theorem Fr3.still (F : Fr3 K H0 G0 ρ σ G H) {i : Nat} {c : Cl} {v : V} {f : Bool} {d : D} (hi : ρ[i]? = some (some c)) (hv : σ[i]? = some (some v)) (r : ∀ G', Same G G' → (∀ a, Has c v a → G' a = H a ∧ H0 a = none) → Rf K H0 G' f v d) : ∃ G', Same G G' ∧ Fr3 K H0 G0 (ρ.set i (some (.sh f d))) σ G' H := by
  have hd : ∀ b, Decidable (Has c v b) := fun b => Classical.propDecidable _
  have w := F.vw hi hv
  have e1 : ∀ b, Has c v b → (fun b => if Has c v b then H b else G b) b = H b := fun b h => if_pos h
  have e2 : ∀ b, ¬ Has c v b → (fun b => if Has c v b then H b else G b) b = G b := fun b h => if_neg h
  generalize (fun b => if Has c v b then H b else G b) = G' at e1 e2
  have gg : Same G G' := fun b o e => by
    rw [e2 b (fun h => by rw [(w.has h).2] at e; cases e)]; exact e
  refine ⟨G', gg, F.keep, fun b o e => ?_, fun b o e => ?_, F.g0.trans gg, fun j c2 e => ?_, fun j c2 v2 a e e' h => ?_, fun j k c1 c2 v1 v2 a q1 q2 q3 q4 h1 h2 => ?_, by rw [List.length_set]; exact F.len⟩
  · by_cases h : Has c v b
    · rw [e1 b h] at e; exact e
    · rw [e2 b h] at e; exact F.sub b o e
  · by_cases h : Has c v b
    · exact .inr (F.mine i c v b hi hv h)
    · rw [e2 b h] at e; exact F.old b o e
  · rcases get_set e with ⟨rfl, q, _⟩ | ⟨n, q⟩
    · cases q
      exact ⟨v, hv, .sh (r G' gg fun a h => ⟨e1 a h, F.mine i c v a hi hv h⟩)⟩
    · obtain ⟨v', h1, h2⟩ := F.slot j c2 q
      exact ⟨v', h1, h2.turn gg (fun _ _ e => e) fun a h => ⟨rfl, e2 a fun h' => n (F.apart i j c c2 v v' a hi q hv h1 h' h)⟩⟩
  · rcases get_set e with ⟨rfl, q, _⟩ | ⟨n, q⟩
    · cases q; exact False.elim h
    · exact F.mine j c2 v2 a q e' h
  · rcases get_set q1 with ⟨rfl, q, _⟩ | ⟨n, q⟩
    · cases q; exact False.elim h1
    · rcases get_set q2 with ⟨rfl, q', _⟩ | ⟨n', q'⟩
      · cases q'; exact False.elim h2
      · exact F.apart j k c1 c2 v1 v2 a q q' q3 q4 h1 h2
theorem Fr3.freeze (F : Fr3 K H0 G0 ρ σ G H) {i : Nat} {f : Bool} {ds : List D} (hi : ρ[i]? = some (some (.ow f ds))) : ∃ G', Same G G' ∧ Fr3 K H0 G0 (ρ.set i (some (.sh f (.list ds)))) σ G' H := by
  obtain ⟨v, hv, w⟩ := F.slot i _ hi
  refine F.still hi hv fun G' gg q => ?_
  cases w with
  | ow h r n =>
    obtain ⟨q1, q2⟩ := q _ rfl
    rw [h] at q1
    exact ⟨.lst (SqL.of q1) (rdvs_same gg r.rd), fun hf => .lst q1 q2 (rdns_mono gg (fun _ _ _ z => z) (r.nw hf))⟩
theorem rdns_refs {ps : List Addr} {ms : List (List D)} (hl : ps.length = ms.length) (h : ∀ (k : Nat) (p : Addr) (m : List D), ps[k]? = some p → ms[k]? = some m → RdN K H0 G (.ref p) (.list m)) : RdNs K H0 G (ps.map V.ref) (ms.map PyData.list) := by
  induction ps generalizing ms with
  | nil => cases ms with
    | nil => exact .nil
    | cons m ms => cases hl
  | cons p ps ih => cases ms with
    | nil => cases hl
    | cons m ms => exact .cons (h 0 p m rfl rfl) (ih (Nat.succ.inj hl) fun k q n h1 h2 => h (k + 1) q n (by simpa using h1) (by simpa using h2))
theorem Fr3.freezeT (F : Fr3 K H0 G0 ρ σ G H) {i : Nat} {ps : List Addr} {ms : List (List D)} (hi : ρ[i]? = some (some (.tr ps ms))) : ∃ G', Same G G' ∧ Fr3 K H0 G0 (ρ.set i (some (.sh true (.list (ms.map PyData.list))))) σ G' H := by
  obtain ⟨v, hv, w⟩ := F.slot i _ hi
  refine F.still hi hv fun G' gg q => ?_
  cases w with
  | tr t =>
    obtain ⟨q1, q2⟩ := q _ (.inl rfl)
    have n : RdN K H0 G' (.ref _) (.list (ms.map PyData.list)) := .lst (q1.trans t.top) q2 (rdns_refs t.len fun k p m h1 h2 => by
      obtain ⟨vs, a, b, c⟩ := t.item k p m h1 h2
      obtain ⟨q3, q4⟩ := q p (.inr (List.mem_of_getElem? h1))
      exact .lst (q3.trans a) q4 (rdns_mono gg (fun _ _ _ z => z) (c.nw rfl)))
    exact ⟨rdn_rd n, fun _ => n⟩
theorem Fr3.rebase (F : Fr3 K H0 G0 ρ σ G H) : Fr3 K H0 G ρ σ G H := ⟨F.keep, F.sub, fun _ _ e => .inl e, Same.refl _, F.slot, F.mine, F.apart, F.len⟩
theorem Fr3.back {ρ1 : Env3} {σ1 : L2.St} {G1 H1 : Hp} (F : Fr3 K H0 G1 ρ σ G H) (B : Fr3 K H0 G0 ρ1 σ1 G1 H1) : Fr3 K H0 G0 ρ σ G H :=
  ⟨F.keep, F.sub, fun b o e => (F.old b o e).elim (fun q => B.old b o q) .inr, B.g0.trans F.g0, F.slot, F.mine, F.apart, F.len⟩
theorem Fr3.gr0 (F : Fr3 K H0 G0 ρ σ G H) : Gr G0 H0 G H := ⟨F.g0, F.keep, F.sub, F.old⟩
theorem Gr.back {ρ1 : Env3} {σ1 : L2.St} {G1 H1 : Hp} (g : Gr G1 H0 G H) (B : Fr3 K H0 G0 ρ1 σ1 G1 H1) : Gr G0 H0 G H :=
  ⟨B.g0.trans g.g, g.h, g.sub, fun b o e => (g.new b o e).elim (fun q => B.old b o q) .inr⟩
end
end L3
namespace L3
open PySem PySem.Spec PyProof.Rows L2
theorem el5 {α β γ : Type} {P R : α → β → γ → Prop} {C : Prop} (f : ∀ a b c, P a b c → R a b c → C) (h : ∃ a b c, P a b c ∧ R a b c) : C := by
  obtain ⟨a, b, c, x, y⟩ := h; exact f a b c x y
theorem el7 {α β γ δ : Type} {P R S : α → β → γ → δ → Prop} {C : Prop} (f : ∀ a b c d, P a b c d → R a b c d → S a b c d → C) (h : ∃ a b c d, P a b c d ∧ R a b c d ∧ S a b c d) : C := by
  obtain ⟨a, b, c, d, x, y, z⟩ := h; exact f a b c d x y z
theorem el2 {α β : Type} {P R S : α → β → Prop} {C : Prop} (f : ∀ a b, P a b → R a b → S a b → C) (h : ∃ a b, P a b ∧ R a b ∧ S a b) : C := by
  obtain ⟨a, b, x, y, z⟩ := h; exact f a b x y z
theorem el3 {α β γ : Type} {P R S T : α → β → γ → Prop} {C : Prop} (f : ∀ a b c, P a b c → R a b c → S a b c → T a b c → C) (h : ∃ a b c, P a b c ∧ R a b c ∧ S a b c ∧ T a b c) : C := by
  obtain ⟨a, b, c, x, y, z, w⟩ := h; exact f a b c x y z w
noncomputable abbrev TE3 := Env3 → (Cl → Prop) → Prop
noncomputable abbrev TT3 := Env3 → (Bool → Prop) → Prop
noncomputable abbrev TA3 := Env3 → (List Cl → Prop) → Prop
noncomputable abbrev TN3 := Env3 → (Bool → List D → Prop) → Prop
structure Ends3 where
  nx : Env3 → Prop
  rt : Bool → D → Prop
  bk : Env3 → Prop := fun _ => False
  ct : Env3 → Prop := fun _ => False
noncomputable abbrev TS3 := Ends3 → Env3 → Prop
noncomputable def liftE (K : PySem.W.Frag) (H0 : Hp) (t : TE3) : TE := fun σ H Q => ∃ G0 ρ G, Fr3 K H0 G0 ρ σ G H ∧ t ρ fun c => ∀ v G' H', Gr G H G' H' → Vw K H0 G' H' v c → Q v H'
noncomputable def liftN (K : PySem.W.Frag) (H0 : Hp) (t : TN3) : TE := fun σ H Q => ∃ G0 ρ G, Fr3 K H0 G0 ρ σ G H ∧ t ρ fun f ds => ∀ l vs G' H', Gr G H G' H' → H' l = none → Rfs K H0 G' f vs ds → Q (.ref l) (upd H' l (.lst vs))
noncomputable def liftT (K : PySem.W.Frag) (H0 : Hp) (t : TT3) : TT := fun σ H Q => ∃ G0 ρ G, Fr3 K H0 G0 ρ σ G H ∧ t ρ fun b => ∀ G' H', Gr G H G' H' → Q b H'
noncomputable def liftA (K : PySem.W.Frag) (H0 : Hp) (t : TA3) : TA := fun σ H Q => ∃ G0 ρ G, Fr3 K H0 G0 ρ σ G H ∧ t ρ fun cs => ∀ vs G' H', Gr G H G' H' → Vws K H0 G' H' vs cs → Q vs H'
structure LD (K : PySem.W.Frag) (H0 G0 : Hp) (A : Ends3) (B : Ends) : Prop where
  nx : ∀ ρ σ G H, Fr3 K H0 G0 ρ σ G H → A.nx ρ → B.nx σ H
  rt : ∀ f d v G H, Gr G0 H0 G H → Rf K H0 G f v d → A.rt f d → B.rt v H
  bk : ∀ ρ σ G H, Fr3 K H0 G0 ρ σ G H → A.bk ρ → B.bk σ H
  ct : ∀ ρ σ G H, Fr3 K H0 G0 ρ σ G H → A.ct ρ → B.ct σ H
noncomputable def liftS (K : PySem.W.Frag) (H0 : Hp) (t : TS3) : TS := fun B σ H => ∃ G0 A ρ G, Fr3 K H0 G0 ρ σ G H ∧ t A ρ ∧ LD K H0 G0 A B
structure PE3 (X : Cx) (H0 : Hp) (e : Expr) (t : TE3) : Prop where
  mono : ∀ ρ (Q Q' : Cl → Prop), (∀ c, Q c → Q' c) → t ρ Q → t ρ Q'
  ok : PE X e (liftE X.K H0 t)
structure PN3 (X : Cx) (H0 : Hp) (e : Expr) (t : TN3) : Prop where
  mono : ∀ ρ (Q Q' : Bool → List D → Prop), (∀ f c, Q f c → Q' f c) → t ρ Q → t ρ Q'
  ok : PE X e (liftN X.K H0 t)
structure PT3 (X : Cx) (H0 : Hp) (e : Expr) (t : TT3) : Prop where
  mono : ∀ ρ (Q Q' : Bool → Prop), (∀ c, Q c → Q' c) → t ρ Q → t ρ Q'
  ok : PT X e (liftT X.K H0 t)
structure PW3 (X : Cx) (H0 : Hp) (e : Expr) (t : TT3) : Prop where
  mono : ∀ ρ (Q Q' : Bool → Prop), (∀ c, Q c → Q' c) → t ρ Q → t ρ Q'
  ok : PW X e (liftT X.K H0 t)
structure PA3 (X : Cx) (H0 : Hp) (es : List Expr) (t : TA3) : Prop where
  mono : ∀ ρ (Q Q' : List Cl → Prop), (∀ c, Q c → Q' c) → t ρ Q → t ρ Q'
  ok : PA X es (liftA X.K H0 t)
noncomputable def PS3 (X : Cx) (H0 : Hp) (st : Stmt) (t : TS3) : Prop := PS X st (liftS X.K H0 t)
noncomputable def PSs3 (X : Cx) (H0 : Hp) (st : List Stmt) (t : TS3) : Prop := PSs X st (liftS X.K H0 t)
theorem PE.imp {X : Cx} {e : Expr} {t t' : TE} (h : PE X e t) (i : ∀ σ H Q, t' σ H Q → t σ H Q) : PE X e t' := fun pins s σ H Q I q => h pins s σ H Q I (i _ _ _ q)
theorem PT.imp {X : Cx} {e : Expr} {t t' : TT} (h : PT X e t) (i : ∀ σ H Q, t' σ H Q → t σ H Q) : PT X e t' := fun pins s σ H Q I q => h pins s σ H Q I (i _ _ _ q)
theorem PW.imp {X : Cx} {e : Expr} {t t' : TT} (h : PW X e t) (i : ∀ σ H Q, t' σ H Q → t σ H Q) : PW X e t' := fun wh pins s σ H Q I q => h wh pins s σ H Q I (i _ _ _ q)
theorem PA.imp {X : Cx} {e : List Expr} {t t' : TA} (h : PA X e t) (i : ∀ σ H Q, t' σ H Q → t σ H Q) : PA X e t' := fun pos pins s σ H Q I q => h pos pins s σ H Q I (i _ _ _ q)
theorem PS.imp {X : Cx} {e : Stmt} {t t' : TS} (h : PS X e t) (i : ∀ B σ H, t' B σ H → t B σ H) : PS X e t' := fun pins s σ H B I q => h pins s σ H B I (i _ _ _ q)
theorem PSs.imp {X : Cx} {e : List Stmt} {t t' : TS} (h : PSs X e t) (i : ∀ B σ H, t' B σ H → t B σ H) : PSs X e t' := fun pins s σ H B I q => h pins s σ H B I (i _ _ _ q)
section
variable {X : Cx} {H0 : Hp} {e a b c : Expr} {pos : Pos}
noncomputable def atV (o : Option (Option Cl)) (P : Cl → Prop) : Prop := match o with
  | some (some c) => P c
  | _ => False
theorem atV_of {o : Option (Option Cl)} {P : Cl → Prop} (h : atV o P) : ∃ c, o = some (some c) ∧ P c := by
  cases o with
  | none => exact False.elim h
  | some x => cases x with
    | none => exact False.elim h
    | some c => exact ⟨c, rfl, h⟩
noncomputable def asS (c : Cl) (P : Bool → D → Prop) : Prop := match c with
  | .sh f d => P f d
  | _ => False
theorem asS_of {c : Cl} {P : Bool → D → Prop} (h : asS c P) : ∃ f d, c = .sh f d ∧ P f d := by
  cases c with
  | sh f d => exact ⟨f, d, rfl, h⟩
  | _ => exact False.elim h
noncomputable def asD (d : D) (P : Bool → Prop) : Prop := match d with
  | .bool k => P k
  | _ => False
noncomputable def asB (c : Cl) (P : Bool → Prop) : Prop := match c with
  | .sh true d => asD d P
  | _ => False
theorem asB_of {c : Cl} {P : Bool → Prop} (h : asB c P) : ∃ k, c = .sh true (.bool k) ∧ P k := by
  cases c with
  | sh f d => cases f with
    | true => cases d with
      | bool k => exact ⟨k, rfl, h⟩
      | _ => exact False.elim h
    | false => exact False.elim h
  | _ => exact False.elim h
noncomputable def optP {α : Type} (o : Option α) (P : α → Prop) : Prop := match o with
  | some a => P a
  | none => False
theorem optP_of {α : Type} {o : Option α} {P : α → Prop} (h : optP o P) : ∃ a, o = some a ∧ P a := by
  cases o with
  | none => exact False.elim h
  | some a => exact ⟨a, rfl, h⟩
noncomputable def asT (d : D) (P : List D → Prop) : Prop := match d with
  | .tuple ds => P ds
  | _ => False
theorem asT_of {d : D} {P : List D → Prop} (h : asT d P) : ∃ ds, d = .tuple ds ∧ P ds := by
  cases d with
  | tuple ds => exact ⟨ds, rfl, h⟩
  | _ => exact False.elim h
noncomputable def asLd (d : D) (P : List D → Prop) : Prop := match d with
  | .list ds => P ds
  | _ => False
noncomputable def asL (c : Cl) (P : Bool → List D → Prop) : Prop := match c with
  | .sh f d => asLd d (P f)
  | _ => False
theorem asL_of {c : Cl} {P : Bool → List D → Prop} (h : asL c P) : ∃ f ds, c = .sh f (.list ds) ∧ P f ds := by
  cases c with
  | sh f d => cases d with
    | list ds => exact ⟨f, ds, rfl, h⟩
    | _ => exact False.elim h
  | _ => exact False.elim h
noncomputable def atO (o : Option (Option Cl)) (P : Bool → List D → Prop) : Prop := match o with
  | some (some (.ow f ds)) => P f ds
  | _ => False
theorem atO_of {o : Option (Option Cl)} {P : Bool → List D → Prop} (h : atO o P) : ∃ f ds, o = some (some (.ow f ds)) ∧ P f ds := by
  cases o with
  | none => exact False.elim h
  | some x => cases x with
    | none => exact False.elim h
    | some c => cases c with
      | ow f ds => exact ⟨f, ds, rfl, h⟩
      | _ => exact False.elim h
noncomputable def consP {α : Type} (l : List α) (P : α → List α → Prop) : Prop := match l with
  | d :: r => P d r
  | [] => False
theorem consP_of {α : Type} {l : List α} {P : α → List α → Prop} (h : consP l P) : ∃ d r, l = d :: r ∧ P d r := by
  cases l with
  | nil => exact False.elim h
  | cons d r => exact ⟨d, r, rfl, h⟩
noncomputable def nilP {α : Type} (l : List α) (P : Prop) : Prop := match l with
  | [] => P
  | _ :: _ => False
theorem nilP_of {α : Type} {l : List α} {P : Prop} (h : nilP l P) : l = [] ∧ P := by
  cases l with
  | nil => exact ⟨rfl, h⟩
  | cons d r => exact False.elim h
noncomputable def asId (d : D) (P : Int → Prop) : Prop := match d with
  | .int i => P i
  | _ => False
noncomputable def asI (c : Cl) (P : Int → Prop) : Prop := match c with
  | .sh true d => asId d P
  | _ => False
theorem asI_of {c : Cl} {P : Int → Prop} (h : asI c P) : ∃ k, c = .sh true (.int k) ∧ P k := by
  cases c with
  | sh f d => cases f with
    | true => cases d with
      | int k => exact ⟨k, rfl, h⟩
      | _ => exact False.elim h
    | false => exact False.elim h
  | _ => exact False.elim h
noncomputable def v3 (i : Nat) : TE3 := fun ρ Q => atV ρ[i]? Q
noncomputable def k3 (d : D) : TE3 := fun _ Q => Q (.sh true d)
theorem n3 (i : Nat) {x : Str} (hN : X.N[i]? = some x := by rfl) (hv : Vis X.env.scope x := by first | exact Or.inl rfl | exact Or.inr (Or.inl rfl) | exact Or.inr (Or.inr rfl)) (hd : (x == ("__debug__" : Str)) = false := by decide) (hcd : (x == ("__classdict__" : Str)) = false := by decide) :
    PE3 X H0 (.Name x pos) (v3 i) := by
  refine ⟨fun ρ Q Q' h q => ?_, PE.imp (pe_var hN hv hd hcd) fun σ H Q => el5 fun G0 ρ G F q => ?_⟩
  · obtain ⟨c, e, q⟩ := atV_of q
    show atV ρ[i]? Q'
    rw [e]; exact h c q
  obtain ⟨c, e, q⟩ := atV_of q
  obtain ⟨v, h1, h2⟩ := F.slot i c e
  exact ⟨v, h1, q v G H (Gr.refl F.sub) h2⟩
theorem const3 {v : V} {d : D} (h : PE X e (tC v)) (r : ∀ G, RdV X.K G v d) (hs : scal3 d = true) : PE3 X H0 e (k3 d) :=
  ⟨fun ρ Q Q' h q => h _ q, PE.imp h fun σ H Q => el5 fun G0 ρ G F q => q v G H (Gr.refl F.sub) (.sh (.sc hs (r G)))⟩
theorem i3 {i j pos} : PE3 X H0 (.Constant (.int i) j pos) (k3 (.int i)) := const3 pe_int (fun _ => .int i) rfl
theorem b3 {i j pos} : PE3 X H0 (.Constant (.bool i) j pos) (k3 (.bool i)) := const3 pe_bl (fun _ => .bl i) rfl
theorem non3 {j pos} : PE3 X H0 (.Constant .none j pos) (k3 .none) := const3 pe_non (fun _ => .non) rfl
theorem s3 {i j pos} : PE3 X H0 (.Constant (.str i) j pos) (k3 (.str i)) := const3 pe_str (fun _ => .str i) rfl
theorem g3 {x : Str} {v : V} {u : Value} {d : D} (hg : Gl X x) (hm : X.mg x = some u) (r : RelV v u) (rd : ∀ G, RdV X.K G v d) (hs : scal3 d = true) (hd : (x == ("__debug__" : Str)) = false := by decide) : PE3 X H0 (.Name x pos) (k3 d) := const3 (pe_glob hg hm r hd) rd hs
noncomputable def nw3 (t : TN3) : TE3 := fun ρ Q => t ρ fun f ds => Q (.sh f (.list ds))
theorem new3 {t : TN3} (h : PN3 X H0 e t) : PE3 X H0 e (nw3 t) :=
  ⟨fun ρ Q Q' hq q => h.mono ρ _ _ (fun f ds => hq _) q, PE.imp h.ok fun σ H Q => el5 fun G0 ρ G F q => ⟨G0, ρ, G, F, h.mono ρ _ _ (fun f ds k l vs G' H' g hl r =>
    k (.ref l) (upd G' l (.lst vs)) (upd H' l (.lst vs)) (g.trans (Gr.put g.sub hl)) (.sh ⟨.lst (SqL.of upd_same) (rdvs_same (same_new (g.sub.free hl) _) r.rd), fun hf => .lst upd_same ((F.keep.trans g.h).free hl) (rdns_mono (same_new (g.sub.free hl) _) (fun _ _ _ z => z) (r.nw hf))⟩)) q⟩⟩
noncomputable abbrev R3 := Cl → Cl → (Bool → D → Prop) → Prop
noncomputable def liftR (K : PySem.W.Frag) (H0 : Hp) (r : R3) : R2 := fun x y H Q => ∃ G a b, Same G H ∧ Vw K H0 G H x a ∧ Vw K H0 G H y b ∧ r a b fun f d => ∀ v G' H', Gr G H G' H' → Rf K H0 G' f v d → Q v H'
structure OpOk (X : Cx) (f : Value → Value → Sem Value) (r : R3) : Prop where
  mono : ∀ a b (Q Q' : Bool → D → Prop), (∀ f c, Q f c → Q' f c) → r a b Q → r a b Q'
  ok : ∀ H0, OpR X f (liftR X.K H0 r)
theorem OpR.imp {f : Value → Value → Sem Value} {r r' : R2} (h : OpR X f r) (i : ∀ x y H Q, r' x y H Q → r x y H Q) : OpR X f r' := fun pins s σ H x y v u Q I rx ry q => h pins s σ H x y v u Q I rx ry (i _ _ _ _ q)
noncomputable def o3 (r : R3) (ta tb : TE3) : TE3 := fun ρ Q => ta ρ fun a => tb ρ fun b => r a b fun f d => Q (.sh f d)
theorem o3_mono {r : R3} {ta tb : TE3} (hr : ∀ a b (Q Q' : Bool → D → Prop), (∀ f c, Q f c → Q' f c) → r a b Q → r a b Q') (ha : ∀ ρ (Q Q' : Cl → Prop), (∀ c, Q c → Q' c) → ta ρ Q → ta ρ Q') (hb : ∀ ρ (Q Q' : Cl → Prop), (∀ c, Q c → Q' c) → tb ρ Q → tb ρ Q') :
    ∀ ρ (Q Q' : Cl → Prop), (∀ c, Q c → Q' c) → o3 r ta tb ρ Q → o3 r ta tb ρ Q' := fun ρ Q Q' h q => ha ρ _ _ (fun a => hb ρ _ _ fun b => hr a b _ _ fun f d => h _) q
theorem o3_lift {r : R3} {ta tb : TE3} (hr : ∀ a b (Q Q' : Bool → D → Prop), (∀ f c, Q f c → Q' f c) → r a b Q → r a b Q') (ha : ∀ ρ (Q Q' : Cl → Prop), (∀ c, Q c → Q' c) → ta ρ Q → ta ρ Q') (hb : ∀ ρ (Q Q' : Cl → Prop), (∀ c, Q c → Q' c) → tb ρ Q → tb ρ Q') {K : PySem.W.Frag} :
    ∀ σ H Q, liftE K H0 (o3 r ta tb) σ H Q → tOp (liftR K H0 r) (liftE K H0 ta) (liftE K H0 tb) σ H Q := fun σ H Q => el5 fun G0 ρ G F q =>
  ⟨G0, ρ, G, F, ha ρ _ _ (fun a qa v1 G1 H1 g1 w1 => ⟨G0, ρ, G1, F.gr g1, hb ρ _ _ (fun b qb v2 G2 H2 g2 w2 => ⟨G2, a, b, g2.sub, w1.gr g2, w2, hr a b _ _ (fun f d k v G' H' g r => k v G' H' ((g1.trans g2).trans g) (.sh r)) qb⟩) qa⟩) q⟩
theorem op3 {op : Operator} {r : R3} {ta tb : TE3} (ho : OpOk X (binaryOp op) r) (ha : PE3 X H0 a ta) (hb : PE3 X H0 b tb) : PE3 X H0 (.BinOp a op b pos) (o3 r ta tb) :=
  ⟨o3_mono ho.mono ha.mono hb.mono, PE.imp (pe_op (ho.ok H0) ha.ok hb.ok) (o3_lift ho.mono ha.mono hb.mono)⟩
theorem cmp3 {op : CmpOp} {r : R3} {ta tb : TE3} (ho : OpOk X (compareOp op) r) (ha : PE3 X H0 a ta) (hb : PE3 X H0 b tb) (hm : behindInMarks op b = false) : PE3 X H0 (.Compare a [op] [b] pos) (o3 r ta tb) :=
  ⟨o3_mono ho.mono ha.mono hb.mono, PE.imp (pe_cmpR (ho.ok H0) ha.ok hb.ok hm) (o3_lift ho.mono ha.mono hb.mono)⟩
noncomputable def tt3 (t : TE3) : TT3 := fun ρ Q => t ρ fun c => asB c Q
theorem vw_bool {K : PySem.W.Frag} {H0 G H : Hp} {v : V} {f k : Bool} (w : Vw K H0 G H v (.sh f (.bool k))) : v = .bl k := by
  cases w with
  | sh r => cases r.rd; rfl
theorem tt3_lift {t : TE3} {K : PySem.W.Frag} (ht : ∀ ρ (Q Q' : Cl → Prop), (∀ c, Q c → Q' c) → t ρ Q → t ρ Q') : ∀ σ H Q, liftT K H0 (tt3 t) σ H Q → tTest (liftE K H0 t) σ H Q := fun σ H Q => el5 fun G0 ρ G F q =>
  ⟨G0, ρ, G, F, ht ρ _ _ (fun c q v G' H' g w => by obtain ⟨k, e, q⟩ := asB_of q; subst e; exact ⟨k, vw_bool w, q G' H' g⟩) q⟩
theorem tt3_mono {t : TE3} (ht : ∀ ρ (Q Q' : Cl → Prop), (∀ c, Q c → Q' c) → t ρ Q → t ρ Q') : ∀ ρ (Q Q' : Bool → Prop), (∀ c, Q c → Q' c) → tt3 t ρ Q → tt3 t ρ Q' := fun ρ Q Q' h q => ht ρ _ _ (fun c q => by obtain ⟨k, e, q⟩ := asB_of q; subst e; exact h k q) q
theorem tTest_imp {t t' : TE} (h : ∀ σ H Q, t' σ H Q → t σ H Q) : ∀ σ H Q, tTest t' σ H Q → tTest t σ H Q := fun σ H Q q => h _ _ _ q
theorem tcmp3 {op : CmpOp} {r : R3} {ta tb : TE3} (ho : OpOk X (compareOp op) r) (ha : PE3 X H0 a ta) (hb : PE3 X H0 b tb) (hm : behindInMarks op b = false) : PT3 X H0 (.Compare a [op] [b] pos) (tt3 (o3 r ta tb)) :=
  ⟨tt3_mono (o3_mono ho.mono ha.mono hb.mono), PT.imp (pt_cmpR (ho.ok H0) ha.ok hb.ok hm) fun σ H Q q => tTest_imp (o3_lift ho.mono ha.mono hb.mono) σ H Q (tt3_lift (o3_mono ho.mono ha.mono hb.mono) σ H Q q)⟩
theorem rdv_bool {K : PySem.W.Frag} {G : Hp} {v : V} {k : Bool} (w : RdV K G v (.bool k)) : v = .bl k := by cases w; rfl
noncomputable abbrev U3 := Cl → (Bool → D → Prop) → Prop
noncomputable def u3 (r : U3) (ta : TE3) : TE3 := fun ρ Q => ta ρ fun a => r a fun f d => Q (.sh f d)
theorem val3 {t : TE3} (h : PE3 X H0 e t) (he : ∀ whole, isTrue e X.env whole = (do let v ← whole; standAt e.pos; holding [v] (truthy v)) := by intro _; rfl) : PT3 X H0 e (tt3 t) :=
  ⟨tt3_mono h.mono, PT.imp (pt_val h.ok he) (tt3_lift h.mono)⟩
noncomputable def and3 (t u : TT3) : TT3 := fun ρ Q => t ρ fun k => if k = true then u ρ Q else Q false
noncomputable def or3 (t u : TT3) : TT3 := fun ρ Q => t ρ fun k => if k = true then Q true else u ρ Q
noncomputable def not3 (t : TT3) : TT3 := fun ρ Q => t ρ fun k => Q (!k)
theorem not3_ok {t : TT3} (h : PT3 X H0 a t) : PT3 X H0 (.UnaryOp .Not a pos) (not3 t) :=
  ⟨fun ρ Q Q' hq q => h.mono ρ _ _ (fun k => hq _) q, PT.imp (pt_not h.ok) fun σ H Q => el5 fun G0 ρ G F q => ⟨G0, ρ, G, F, q⟩⟩
theorem and1_3 {t : TT3} (h : PT3 X H0 a t) : PW3 X H0 (.BoolOp .And [a] pos) t := ⟨h.mono, pw_and1 h.ok⟩
theorem or1_3 {t : TT3} (h : PT3 X H0 a t) : PW3 X H0 (.BoolOp .Or [a] pos) t := ⟨h.mono, pw_or1 h.ok⟩
theorem and3_ok {rest : List Expr} {t u : TT3} (h : PT3 X H0 a t) (h' : PW3 X H0 (.BoolOp .And (b :: rest) pos) u) : PW3 X H0 (.BoolOp .And (a :: b :: rest) pos) (and3 t u) :=
  ⟨fun ρ Q Q' hq q => h.mono ρ _ _ (fun k => by cases k; exact hq _; exact h'.mono ρ _ _ hq) q, PW.imp (pw_and h.ok h'.ok) fun σ H Q => el5 fun G0 ρ G F q => ⟨G0, ρ, G, F, h.mono ρ _ _ (fun k qk G1 H1 g1 => by
    cases k with
    | false => exact qk G1 H1 g1
    | true => exact ⟨G0, ρ, G1, F.gr g1, h'.mono ρ _ _ (fun k q G2 H2 g2 => q G2 H2 (g1.trans g2)) qk⟩) q⟩⟩
theorem or3_ok {rest : List Expr} {t u : TT3} (h : PT3 X H0 a t) (h' : PW3 X H0 (.BoolOp .Or (b :: rest) pos) u) : PW3 X H0 (.BoolOp .Or (a :: b :: rest) pos) (or3 t u) :=
  ⟨fun ρ Q Q' hq q => h.mono ρ _ _ (fun k => by cases k; exact h'.mono ρ _ _ hq; exact hq _) q, PW.imp (pw_or h.ok h'.ok) fun σ H Q => el5 fun G0 ρ G F q => ⟨G0, ρ, G, F, h.mono ρ _ _ (fun k qk G1 H1 g1 => by
    cases k with
    | true => exact qk G1 H1 g1
    | false => exact ⟨G0, ρ, G1, F.gr g1, h'.mono ρ _ _ (fun k q G2 H2 g2 => q G2 H2 (g1.trans g2)) qk⟩) q⟩⟩
theorem pw3 {t : TT3} (h : PW3 X H0 e t) : PT3 X H0 e t := ⟨h.mono, h.ok.pt⟩
noncomputable def andV3 (ta tb : TE3) : TE3 := fun ρ Q => ta ρ fun c => ∃ k, c = .sh true (.bool k) ∧ if k = true then tb ρ Q else Q (.sh true (.bool false))
noncomputable def notV3 (ta : TE3) : TE3 := fun ρ Q => ta ρ fun c => ∃ k, c = .sh true (.bool k) ∧ Q (.sh true (.bool (!k)))
theorem one3 {op} {t : TE3} (h : PE3 X H0 a t) : PE3 X H0 (.BoolOp op [a] pos) t := ⟨h.mono, pe_one h.ok⟩
theorem andV3_ok {rest : List Expr} {ta tb : TE3} (h : PE3 X H0 a ta) (h' : PE3 X H0 (.BoolOp .And (b :: rest) pos) tb) : PE3 X H0 (.BoolOp .And (a :: b :: rest) pos) (andV3 ta tb) :=
  ⟨fun ρ Q Q' hq q => h.mono ρ _ _ (fun c ⟨k, e, q⟩ => ⟨k, e, by cases k; exact hq _ q; exact h'.mono ρ _ _ hq q⟩) q, PE.imp (pe_and h.ok h'.ok) fun σ H Q => el5 fun G0 ρ G F q => ⟨G0, ρ, G, F, h.mono ρ _ _ (fun c hyp v G1 H1 g1 w => by
    obtain ⟨k, e, qk⟩ := hyp
    subst e
    refine ⟨k, vw_bool w, ?_⟩
    cases k with
    | false => exact qk _ G1 H1 g1 (.sh (.sc rfl (.bl false)))
    | true => exact ⟨G0, ρ, G1, F.gr g1, h'.mono ρ _ _ (fun k q v G2 H2 g2 => q v G2 H2 (g1.trans g2)) qk⟩) q⟩⟩
theorem notV3_ok {ta : TE3} (h : PE3 X H0 a ta) : PE3 X H0 (.UnaryOp .Not a pos) (notV3 ta) :=
  ⟨fun ρ Q Q' hq q => h.mono ρ _ _ (fun c ⟨k, e, q⟩ => ⟨k, e, hq _ q⟩) q, PE.imp (pe_not h.ok) fun σ H Q => el5 fun G0 ρ G F q => ⟨G0, ρ, G, F, h.mono ρ _ _ (fun c hyp v G1 H1 g1 w => by
    obtain ⟨k, e, qk⟩ := hyp
    subst e
    exact ⟨k, vw_bool w, qk _ G1 H1 g1 (.sh (.sc rfl (.bl _)))⟩) q⟩⟩
noncomputable def if3 (t : TT3) (ta tb : TE3) : TE3 := fun ρ Q => t ρ fun k => if k = true then ta ρ Q else tb ρ Q
theorem if3_ok {t : TT3} {ta tb : TE3} (h : PT3 X H0 c t) (ha : PE3 X H0 a ta) (hb : PE3 X H0 b tb) : PE3 X H0 (.IfExp c a b pos) (if3 t ta tb) :=
  ⟨fun ρ Q Q' hq q => h.mono ρ _ _ (fun k => by cases k; exact hb.mono ρ _ _ hq; exact ha.mono ρ _ _ hq) q, PE.imp (pe_ifExp h.ok ha.ok hb.ok) fun σ H Q => el5 fun G0 ρ G F q => ⟨G0, ρ, G, F, h.mono ρ _ _ (fun k qk G1 H1 g1 => by
    cases k with
    | true => exact ⟨G0, ρ, G1, F.gr g1, ha.mono ρ _ _ (fun k q v G2 H2 g2 => q v G2 H2 (g1.trans g2)) qk⟩
    | false => exact ⟨G0, ρ, G1, F.gr g1, hb.mono ρ _ _ (fun k q v G2 H2 g2 => q v G2 H2 (g1.trans g2)) qk⟩) q⟩⟩
noncomputable def nil3 : TA3 := fun _ Q => Q []
noncomputable def cons3 (ta : TE3) (tr : TA3) : TA3 := fun ρ Q => ta ρ fun c => tr ρ fun cs => Q (c :: cs)
theorem a_nil : PA3 X H0 [] nil3 := ⟨fun ρ Q Q' h q => h _ q, PA.imp pa_nil fun σ H Q => el5 fun G0 ρ G F q => q [] G H (Gr.refl F.sub) .nil⟩
theorem a_cons {es : List Expr} {ta : TE3} {tr : TA3} (ha : PE3 X H0 e ta) (hr : PA3 X H0 es tr) (hs : starEach (e :: es) X.env = (false, eval e X.env) :: starEach es X.env := by rfl) : PA3 X H0 (e :: es) (cons3 ta tr) :=
  ⟨fun ρ Q Q' h q => ha.mono ρ _ _ (fun c => hr.mono ρ _ _ fun cs => h _) q, PA.imp (pa_cons ha.ok hr.ok hs) fun σ H Q => el5 fun G0 ρ G F q =>
    ⟨G0, ρ, G, F, ha.mono ρ _ _ (fun c qc v G1 H1 g1 w1 => ⟨G0, ρ, G1, F.gr g1, hr.mono ρ _ _ (fun cs k vs G2 H2 g2 w2 => k (v :: vs) G2 H2 (g1.trans g2) (.cons (w1.gr g2) w2)) qc⟩) q⟩⟩
noncomputable def tup3 (t : TA3) : TE3 := fun ρ Q => t ρ fun cs => optP (shs cs) fun p => p.2.length ≤ sizeLine ∧ Q (.sh p.1 (.tuple p.2))
theorem tup3_ok {es : List Expr} {t : TA3} {x1} (h : PA3 X H0 es t) : PE3 X H0 (.Tuple es x1 pos) (tup3 t) :=
  ⟨fun ρ Q Q' hq q => h.mono ρ _ _ (fun cs q => by obtain ⟨ds, e, z, q⟩ := optP_of q; rw [e]; exact ⟨z, hq _ q⟩) q, PE.imp (pe_tup h.ok) fun σ H Q => el5 fun G0 ρ G F q => ⟨G0, ρ, G, F, h.mono ρ _ _ (fun cs hyp vs G1 H1 g1 w => by
    obtain ⟨ds, e, z, k⟩ := optP_of hyp
    have r := w.shs e
    refine ⟨by rw [r.length]; exact z, fun p hp => k (.ref p) (upd G1 p (.tup vs)) (upd H1 p (.tup vs)) (g1.trans (Gr.put g1.sub hp)) (.sh ⟨.tup (SqT.of upd_same) (rdvs_same (same_new (g1.sub.free hp) _) r.rd), fun hf => .tup (SqT.of upd_same) (rdns_mono (same_new (g1.sub.free hp) _) (fun _ _ _ z => z) (r.nw hf))⟩)⟩) q⟩⟩
noncomputable def lst3 (t : TA3) : TN3 := fun ρ Q => t ρ fun cs => optP (shs cs) fun p => p.2.length ≤ sizeLine ∧ Q p.1 p.2
theorem lst3_ok {es : List Expr} {t : TA3} (h : PA3 X H0 es t) : PN3 X H0 (.List es pos) (lst3 t) :=
  ⟨fun ρ Q Q' hq q => h.mono ρ _ _ (fun cs q => by obtain ⟨ds, e, z, q⟩ := optP_of q; rw [e]; exact ⟨z, hq _ _ q⟩) q, PE.imp (pe_lst h.ok) fun σ H Q => el5 fun G0 ρ G F q => ⟨G0, ρ, G, F, h.mono ρ _ _ (fun cs hyp vs G1 H1 g1 w => by
    obtain ⟨ds, e, z, k⟩ := optP_of hyp
    have r := w.shs e
    exact ⟨by rw [r.length]; exact z, fun p hp => k p vs G1 H1 g1 hp r⟩) q⟩⟩
noncomputable abbrev C3 := List Cl → (Bool → D → Prop) → Prop
noncomputable def liftC (K : PySem.W.Frag) (H0 : Hp) (r : C3) : List V → Hp → VK → Prop := fun xs H Q => ∃ G cs, Same G H ∧ Vws K H0 G H xs cs ∧ r cs fun f d => ∀ v G' H', Gr G H G' H' → Rf K H0 G' f v d → Q v H'
structure CallOk (X : Cx) (f : Value) (r : C3) : Prop where
  mono : ∀ cs (Q Q' : Bool → D → Prop), (∀ f c, Q f c → Q' f c) → r cs Q → r cs Q'
  ok : ∀ H0, CallR X f (liftC X.K H0 r)
theorem CallR.imp {f : Value} {r r' : List V → Hp → VK → Prop} (h : CallR X f r) (i : ∀ xs H Q, r' xs H Q → r xs H Q) : CallR X f r' := fun pins s σ H xs us Q I rv q => h pins s σ H xs us Q I rv (i _ _ _ q)
noncomputable def cb3 (r : C3) (t : TA3) : TE3 := fun ρ Q => t ρ fun cs => r cs fun f d => Q (.sh f d)
variable {x : Str} {p : Pos} {es : List Expr} {id T : String}
theorem callB3 {r : C3} {t : TA3} (hc : CallOk X (.builtin id) r) (hg : Gl X x) (hm : X.mg x = none) (hv : bootBuiltins x = some (.builtin id)) (ha : PA3 X H0 (e :: es) t) (hn : x ≠ "__name__" := by decide) (hdb : (x == ("__debug__" : Str)) = false := by decide)
    (he : starEach (e :: es) X.env = (false, eval e X.env) :: starEach es X.env := by rfl) (hpl : (backTo pos (starEach es X.env)).any (·.1) = false := by rfl) : PE3 X H0 (.Call (.Name x p) (e :: es) [] pos) (cb3 r t) :=
  ⟨fun ρ Q Q' h q => ha.mono ρ _ _ (fun cs => hc.mono cs _ _ fun f d => h _) q, PE.imp (pe_callB (hc.ok H0) hg hm hv ha.ok hn hdb he hpl) fun σ H Q => el5 fun G0 ρ G F q => ⟨G0, ρ, G, F, ha.mono ρ _ _ (fun cs qc vs G1 H1 g1 w => ⟨G1, cs, g1.sub, w, hc.mono cs _ _ (fun f d k v G' H' g r => k v G' H' (g1.trans g) (.sh r)) qc⟩) q⟩⟩
noncomputable abbrev Sp3 := List D → (Bool → D → Prop) → (Addr → Prop) → Prop
noncomputable def spL (K : PySem.W.Frag) (sp : Sp3) : Sp := fun vs H Q E => ∃ G ds, Same G H ∧ RdVs K G vs ds ∧ sp ds (fun f d => ∀ v G' H', Gr G H G' H' → Rf K H G' f v d → Q v H') fun C => ∀ H', Same H H' → E (.ref C) none H'
theorem scal3_any {K : PySem.W.Frag} {G G' : Hp} {v : V} {d : D} (h : scal3 d = true) (r : RdV K G v d) : RdV K G' v d := by
  cases r with
  | non => exact .non
  | bl b => exact .bl b
  | int i => exact .int i
  | str s => exact .str s
  | lst _ _ => cases h
  | tup _ _ => cases h
structure Df3 (P : Program) (w : World) (K : PySem.W.Frag) (mg : Str → Option Value) (base : Heap) (k : Nat) (x : Str) (ps : List Str) (sp : Sp3) : Prop where
  mono : ∀ ds (Q Q' : Bool → D → Prop) (E E' : Addr → Prop), (∀ f d, Q f d → Q' f d) → (∀ d, E d → E' d) → sp ds Q E → sp ds Q' E'
  ok : Df P w K mg base k x ps (spL K sp)
noncomputable def call3 (sp : Sp3) (E : Addr → Prop) (t : TA3) : TE3 := fun ρ Q => t ρ fun cs => cs.all Cl.dat = true ∧ sp (cs.map Cl.d) (fun f d => ((shs cs).isSome = true ∨ scal3 d = true) ∧ Q (.sh f d)) E
theorem shs_d : ∀ {cs : List Cl} {p : Bool × List D}, shs cs = some p → cs.map Cl.d = p.2
  | [], _, e => by cases e; rfl
  | .sh _ d :: r, ds, e => by
    unfold shs at e
    cases q : shs r with
    | none => rw [q] at e; cases e
    | some es => rw [q] at e; cases e; rw [List.map_cons, shs_d q]; rfl
  | .ow _ _ :: r, _, e => by cases e
  | .tr _ _ :: r, _, e => by cases e
  | .dt _ :: r, _, e => by cases e
  | .ex _ :: r, _, e => by cases e
theorem df3 {k : Nat} {ps : List Str} {sp : Sp3} {E : XK} {E3 : Addr → Prop} {t : TA3} (hE : ∀ C H', E3 C → Same H0 H' → E (.ref C) none H') (Gd : Df3 X.prog X.w X.K X.mg X.base k x ps sp) (hr : Room k X.A) (hg : Gl X x) (hx : Passes (CXR X.prog X.w) X E) (ha : PA3 X H0 (e :: es) t) (hdb : (x == ("__debug__" : Str)) = false := by decide)
    (he : starEach (e :: es) X.env = (false, eval e X.env) :: starEach es X.env := by rfl) (hpl : (backTo pos (starEach es X.env)).any (·.1) = false := by rfl) : PE3 X H0 (.Call (.Name x p) (e :: es) [] pos) (call3 sp E3 t) := by
  refine ⟨fun ρ Q Q' h q => ha.mono ρ _ _ (fun cs ⟨hd, q⟩ => ⟨hd, Gd.mono _ _ _ _ _ (fun f d ⟨a, b⟩ => ⟨a, h _ b⟩) (fun _ z => z) q⟩) q, PE.imp (pe_df Gd.ok hr hg hx ha.ok hdb he hpl) fun σ H Q => el5 fun G0 ρ G F q => ⟨G0, ρ, G, F, ha.mono ρ _ _ (fun cs ⟨hd, qc⟩ vs G1 H1 g1 w => ?_) q⟩⟩
  show spL X.K sp (vs ++ []) H1 Q E
  rw [List.append_nil]
  have kE : ∀ C, E3 C → ∀ H', Same H1 H' → E (.ref C) none H' := fun C c H' s => hE C H' c ((F.gr g1).keep.trans s)
  cases hs : shs cs with
  | some ds =>
    refine ⟨G1, cs.map Cl.d, g1.sub, by rw [shs_d hs]; exact (w.shs hs).rd, Gd.mono _ _ _ _ _ (fun f d ⟨_, k⟩ v G' H' g r => k v G' H' (g1.trans g) (.sh ⟨r.rd, fun hf => rdn_mono (Same.refl _) (fun _ _ _ z => (F.gr g1).keep.free z) (r.nw hf)⟩)) kE qc⟩
  | none =>
    refine ⟨H1, cs.map Cl.d, Same.refl _, w.rds g1.sub hd, Gd.mono _ _ _ _ _ (fun f d ⟨s, k⟩ v G' H' g r => ?_) kE qc⟩
    have sc : scal3 d = true := s.resolve_left (by rw [hs]; simp)
    exact k v G1 H' (g1.trans ⟨Same.refl _, g.h, g1.sub.trans g.h, fun _ _ e => .inl e⟩) (.sh (.sc sc (scal3_any sc r.rd)))
end
end L3
namespace L3
open PySem PySem.Spec PyProof.Rows L2
theorem cons_inv {K : PySem.W.Frag} {G : Hp} {vs : List V} {d : D} {ds : List D} (r : RdVs K G vs (d :: ds)) : ∃ v us, vs = v :: us ∧ RdV K G v d ∧ RdVs K G us ds := by
  cases r with
  | cons a b => exact ⟨_, _, rfl, a, b⟩
theorem tup_inv {K : PySem.W.Frag} {G : Hp} {v : V} {ds : List D} (r : RdV K G v (.tuple ds)) : ∃ a xs, v = .ref a ∧ SqT K G a xs ∧ RdVs K G xs ds := by
  cases r with
  | tup a b => exact ⟨_, _, rfl, a, b⟩
theorem lst_inv {K : PySem.W.Frag} {G : Hp} {v : V} {ds : List D} (r : RdV K G v (.list ds)) : ∃ a xs, v = .ref a ∧ SqL K G a xs ∧ RdVs K G xs ds := by
  cases r with
  | lst a b => exact ⟨_, _, rfl, a, b⟩
theorem sh_inv {K : PySem.W.Frag} {H0 G H : Hp} {v : V} {f : Bool} {d : D} (w : Vw K H0 G H v (.sh f d)) : Rf K H0 G f v d := by
  cases w with
  | sh r => exact r
theorem rfs_inv {K : PySem.W.Frag} {H0 G : Hp} {f : Bool} {vs : List V} {d : D} {ds : List D} (r : Rfs K H0 G f vs (d :: ds)) : ∃ v us, vs = v :: us ∧ Rf K H0 G f v d ∧ Rfs K H0 G f us ds := by
  obtain ⟨v, us, rfl, a, b⟩ := cons_inv r.rd
  exact ⟨v, us, rfl, ⟨a, fun h => by cases r.nw h with | cons x y => exact x⟩, ⟨b, fun h => by cases r.nw h with | cons x y => exact y⟩⟩
theorem rftup_inv {K : PySem.W.Frag} {H0 G : Hp} {f : Bool} {v : V} {ds : List D} (r : Rf K H0 G f v (.tuple ds)) : ∃ a xs, v = .ref a ∧ SqT K G a xs ∧ Rfs K H0 G f xs ds := by
  cases f with
  | false =>
    obtain ⟨a, xs, rfl, h, rs⟩ := tup_inv r.rd
    exact ⟨a, xs, rfl, h, rs, fun h => by cases h⟩
  | true =>
    have n := r.nw rfl
    cases n with
    | tup h rs => exact ⟨_, _, rfl, h, rdns_rd rs, fun _ => rs⟩
theorem rflst_inv {K : PySem.W.Frag} {H0 G : Hp} {f : Bool} {v : V} {ds : List D} (r : Rf K H0 G f v (.list ds)) : ∃ a xs, v = .ref a ∧ SqL K G a xs ∧ Rfs K H0 G f xs ds := by
  cases f with
  | false =>
    obtain ⟨a, xs, rfl, h, rs⟩ := lst_inv r.rd
    exact ⟨a, xs, rfl, h, rs, fun h => by cases h⟩
  | true =>
    have n := r.nw rfl
    cases n with
    | lst h _ rs => exact ⟨_, _, rfl, SqL.of h, rdns_rd rs, fun _ => rs⟩
section
variable {X : Cx} {H0 : Hp} {e a b c : Expr} {pos : Pos} {st : Stmt} {rest : List Stmt}
noncomputable def next3 : TS3 := fun A ρ => A.nx ρ
noncomputable def seq3 (t u : TS3) : TS3 := fun A ρ => t { A with nx := u A } ρ
theorem ss_nil : PSs3 X H0 [] next3 := PSs.imp pss_nil fun B σ H => el7 fun G0 A ρ G F q L => L.nx ρ σ G H F q
theorem ss_cons {t u : TS3} (h1 : PS3 X H0 st t) (h2 : PSs3 X H0 rest u) : PSs3 X H0 (st :: rest) (seq3 t u) := PSs.imp (pss_cons h1 h2) fun B σ H => el7 fun G0 A ρ G F q L =>
  ⟨G0, { A with nx := u A }, ρ, G, F, q, ⟨fun ρ' σ' G' H' F' q' => ⟨G0, A, ρ', G', F', q', L⟩, L.rt, L.bk, L.ct⟩⟩
theorem ss_one {t : TS3} (h1 : PS3 X H0 st t) : PSs3 X H0 [st] t := pss_one h1
noncomputable def ret3 (te : TE3) : TS3 := fun A ρ => te ρ fun c => asS c A.rt
theorem s_ret {te : TE3} (he : PE3 X H0 e te) : PS3 X H0 (.Return (some e) pos) (ret3 te) := PS.imp (ps_ret he.ok) fun B σ H => el7 fun G0 A ρ G F q L =>
  ⟨G0, ρ, G, F, he.mono ρ _ _ (fun c hyp v G' H' g w => by
    obtain ⟨f, d, hc, q⟩ := asS_of hyp
    subst hc
    exact L.rt f d v G' H' (F.gr g).gr0 (sh_inv w) q) q⟩
noncomputable def ifS3 (t : TT3) (u v : TS3) : TS3 := fun A ρ => t ρ fun k => if k = true then u A ρ else v A ρ
theorem s_if {xs ys : List Stmt} {t : TT3} {u v : TS3} (hc : PT3 X H0 c t) (ha : PSs3 X H0 xs u) (hb : PSs3 X H0 ys v) : PS3 X H0 (.If c xs ys pos) (ifS3 t u v) := PS.imp (ps_if hc.ok ha hb) fun B σ H => el7 fun G0 A ρ G F q L =>
  ⟨G0, ρ, G, F, hc.mono ρ _ _ (fun k q G' H' g => by
    cases k with
    | true => exact ⟨G0, A, ρ, G', F.gr g, q, L⟩
    | false => exact ⟨G0, A, ρ, G', F.gr g, q, L⟩) q⟩
noncomputable def set3 (i : Nat) (te : TE3) : TS3 := fun A ρ => te ρ fun c => asS c fun f d => A.nx (ρ.set i (some (.sh f d)))
theorem s_set {i : Nat} {x : Str} {te : TE3} {pos' : Pos} (hN : X.N.Nodup) (hi : X.N[i]? = some x) (hx : Loc X.env.scope x) (he : PE3 X H0 e te) (hs : swapsWith e (some (.Name x pos')) pos.line X.env = pure false := by rfl)
    (hf : X.fn x = true ∨ X.env.scope.names.lookup x = some .local := by first | exact .inl rfl | exact .inr rfl | assumption) : PS3 X H0 (.Assign [.Name x pos'] e pos) (set3 i te) := PS.imp (ps_set hN hi hx he.ok hs hf) fun B σ H => el7 fun G0 A ρ G F q L =>
  ⟨G0, ρ, G, F, he.mono ρ _ _ (fun c hyp v G' H' g w => by
    obtain ⟨f, d, hc, q⟩ := asS_of hyp
    subst hc
    exact L.nx _ _ G' H' ((F.gr g).set (sh_inv w)) q) q⟩
noncomputable def own3 (i : Nat) (tn : TN3) : TS3 := fun A ρ => tn ρ fun f ds => A.nx (ρ.set i (some (.ow f ds)))
theorem s_own {i : Nat} {x : Str} {tn : TN3} {pos' : Pos} (hN : X.N.Nodup) (hi : X.N[i]? = some x) (hx : Loc X.env.scope x) (he : PN3 X H0 e tn) (hs : swapsWith e (some (.Name x pos')) pos.line X.env = pure false := by rfl)
    (hf : X.fn x = true ∨ X.env.scope.names.lookup x = some .local := by first | exact .inl rfl | exact .inr rfl | assumption) : PS3 X H0 (.Assign [.Name x pos'] e pos) (own3 i tn) := PS.imp (ps_set hN hi hx he.ok hs hf) fun B σ H => el7 fun G0 A ρ G F q L =>
  ⟨G0, ρ, G, F, he.mono ρ _ _ (fun f ds q l vs G' H' g hl r => L.nx _ _ G' _ ((F.gr g).own r hl) q) q⟩
noncomputable abbrev TG3 := Bool → D → Env3 → (Env3 → Prop) → Prop
noncomputable abbrev TGs3 := Bool → List D → Env3 → (Env3 → Prop) → Prop
noncomputable def liftG (K : PySem.W.Frag) (H0 : Hp) (g : TG3) : TG := fun v σ H Q => ∃ G0 ρ G f d, Fr3 K H0 G0 ρ σ G H ∧ Rf K H0 G f v d ∧ g f d ρ fun ρ' => ∀ σ' G' H', Fr3 K H0 G0 ρ' σ' G' H' → Same G G' → Gr G H G' H' → Q σ' H'
noncomputable def liftGs (K : PySem.W.Frag) (H0 : Hp) (g : TGs3) : TGs := fun vs σ H Q => ∃ G0 ρ G f ds, Fr3 K H0 G0 ρ σ G H ∧ Rfs K H0 G f vs ds ∧ g f ds ρ fun ρ' => ∀ σ' G' H', Fr3 K H0 G0 ρ' σ' G' H' → Same G G' → Gr G H G' H' → Q σ' H'
structure PG3 (X : Cx) (H0 : Hp) (tg : Expr) (g : TG3) : Prop where
  mono : ∀ f d ρ (Q Q' : Env3 → Prop), (∀ c, Q c → Q' c) → g f d ρ Q → g f d ρ Q'
  ok : PG X tg (liftG X.K H0 g)
structure PGs3 (X : Cx) (H0 : Hp) (tg : List Expr) (g : TGs3) : Prop where
  mono : ∀ f d ρ (Q Q' : Env3 → Prop), (∀ c, Q c → Q' c) → g f d ρ Q → g f d ρ Q'
  ok : PGs X tg (liftGs X.K H0 g)
theorem PG.imp {tg : Expr} {t t' : TG} (h : PG X tg t) (i : ∀ v σ H Q, t' v σ H Q → t v σ H Q) : PG X tg t' := fun pins s σ H v u Q I r q => h pins s σ H v u Q I r (i _ _ _ _ q)
theorem PGs.imp {tg : List Expr} {t t' : TGs} (h : PGs X tg t) (i : ∀ v σ H Q, t' v σ H Q → t v σ H Q) : PGs X tg t' := fun pins s σ H v u Q I r q => h pins s σ H v u Q I r (i _ _ _ _ q)
noncomputable def gn3 (i : Nat) : TG3 := fun f d ρ Q => Q (ρ.set i (some (.sh (f || scal3 d) d)))
theorem t_name {i : Nat} {x : Str} (hN : X.N.Nodup) (hi : X.N[i]? = some x) (hx : Loc X.env.scope x) (hf : X.fn x = true ∨ X.env.scope.names.lookup x = some .local := by first | exact .inl rfl | exact .inr rfl | assumption) : PG3 X H0 (.Name x pos) (gn3 i) :=
  ⟨fun f d ρ Q Q' h q => h _ q, PG.imp (pg_name hN hi hx hf) fun v σ H Q ⟨G0, ρ, G, f, d, F, r, q⟩ => q _ G H (F.set r.or) (Same.refl _) (Gr.refl F.sub)⟩
noncomputable def gnil3 : TGs3 := fun _ ds ρ Q => nilP ds (Q ρ)
noncomputable def gcons3 (t : TG3) (u : TGs3) : TGs3 := fun f ds ρ Q => consP ds fun d r => t f d ρ fun ρ' => u f r ρ' Q
theorem ts_nil : PGs3 X H0 [] gnil3 :=
  ⟨fun f d ρ Q Q' h q => by obtain ⟨e, q⟩ := nilP_of q; subst e; exact h _ q, PGs.imp pgs_nil fun vs σ H Q hyp => by
    obtain ⟨G0, ρ, G, f, ds, F, r, q⟩ := hyp
    obtain ⟨e, q⟩ := nilP_of q
    subst e
    cases r.rd
    exact ⟨rfl, q σ G H F (Same.refl _) (Gr.refl F.sub)⟩⟩
theorem ts_cons {es : List Expr} {t : TG3} {u : TGs3} (h1 : PG3 X H0 e t) (h2 : PGs3 X H0 es u) (hs : (assignEach (e :: es) X.env).map (·.2) = assign e X.env :: (assignEach es X.env).map (·.2) := by rfl) : PGs3 X H0 (e :: es) (gcons3 t u) :=
  ⟨fun f d ρ Q Q' h q => by obtain ⟨x, r, e, q⟩ := consP_of q; subst e; exact h1.mono f x ρ _ _ (fun ρ' => h2.mono f r ρ' _ _ h) q, PGs.imp (pgs_cons h1.ok h2.ok hs) fun vs σ H Q hyp => by
    obtain ⟨G0, ρ, G, f, ds, F, r, q⟩ := hyp
    obtain ⟨x, y, e, q⟩ := consP_of q
    subst e
    obtain ⟨v, us, rfl, r1, r2⟩ := rfs_inv r
    exact ⟨v, us, rfl, G0, ρ, G, f, x, F, r1, h1.mono f x ρ _ _ (fun ρ' q σ1 G1 H1 F1 s1 g1 => ⟨G0, ρ', G1, f, y, F1, r2.same s1, h2.mono f y ρ' _ _ (fun ρ2 q σ2 G2 H2 F2 s2 g2 => q σ2 G2 H2 F2 (s1.trans s2) (g1.trans g2)) q⟩) q⟩⟩
noncomputable def gtup3 (n : Nat) (t : TGs3) : TG3 := fun f d ρ Q => asT d fun ds => ds.length = n ∧ t f ds ρ Q
theorem t_tup {es : List Expr} {k : Nat} {t : TGs3} {n : Nat} (hc : X.calm = true) (h : PGs3 X H0 es t) (hn : (assignEach es X.env).length = n := by rfl) (hst : (assignEach es X.env).findIdx? (·.1) = none := by rfl) : PG3 X H0 (.Tuple es k pos) (gtup3 n t) :=
  ⟨fun f d ρ Q Q' hq q => by obtain ⟨ds, e, l, q'⟩ := asT_of q; subst e; exact ⟨l, h.mono f ds ρ _ _ hq q'⟩, PG.imp (pg_tup hc h.ok hn hst) fun v σ H Q hyp => by
    obtain ⟨G0, ρ, G, f, d, F, r, q⟩ := hyp
    obtain ⟨ds, e, l, q'⟩ := asT_of q
    subst e
    obtain ⟨a, xs, rfl, hq, rs⟩ := rftup_inv r
    exact ⟨a, xs, rfl, F.sub.tup hq, by rw [rs.length]; exact l, G0, ρ, G, f, ds, F, rs, q'⟩⟩
theorem own_at {K : PySem.W.Frag} {G0 : Hp} {ρ : Env3} {σ : L2.St} {G H : Hp} {i : Nat} {f : Bool} {ds : List D} (F : Fr3 K H0 G0 ρ σ G H) (h : ρ[i]? = some (some (.ow f ds))) : ∃ l vs, σ[i]? = some (some (.ref l)) ∧ H l = some (.lst vs) ∧ Rfs K H0 G f vs ds := by
  obtain ⟨v, h1, h2⟩ := F.slot i _ h
  cases h2 with
  | ow hh r n => exact ⟨_, _, h1, hh, r⟩
noncomputable def app3 (i : Nat) (te : TE3) : TS3 := fun A ρ => atO ρ[i]? fun f ds => te ρ fun c => asS c fun g d => ds.length < sizeLine ∧ A.nx (ρ.set i (some (.ow (f && g) (ds ++ [d]))))
theorem s_append {i : Nat} {te : TE3} {x : Str} {np apos cpos : Pos} (hN : X.N[i]? = some x) (hv : Vis X.env.scope x) (he : PE3 X H0 e te) (hd : (x == ("__debug__" : Str)) = false := by decide) (hcd : (x == ("__classdict__" : Str)) = false := by decide)
    (hb : attributeBase (.Name x np) "append" X.env (eval (.Name x np) X.env) = eval (.Name x np) X.env := by rfl)
    (hf : ((backTo cpos (starEach [e] X.env)).all (fun x => !x.1) && (backToKw cpos (keywordEach [] X.env)).all (fun x => x.1.isSome) && decide ([e].length + ([] : List Keyword).length + (if ([] : List Keyword).isEmpty then 0 else 1) < 30)) = true := by rfl)
    (hl : (apos.endLine == cpos.line) = true := by rfl) (hs : starEach [e] X.env = (false, eval e X.env) :: starEach [] X.env := by rfl) (hp : (backTo cpos (starEach [] X.env)).any (·.1) = false := by rfl)
    (hw : swapsWith (.Call (.Attribute (.Name x np) "append" apos) [e] [] cpos) none pos.line X.env = pure false := by rfl) : PS3 X H0 (.Expr (.Call (.Attribute (.Name x np) "append" apos) [e] [] cpos) pos) (app3 i te) := by
  refine PS.imp (ps_expr (pe_append (pe_var hN hv hd hcd) (pa_cons he.ok pa_nil hs) hb hf hl hs hp) hw) fun B σ H hyp => ?_
  obtain ⟨G0, A, ρ, G, F, q, L⟩ := hyp
  obtain ⟨f, ds, hi, q⟩ := atO_of q
  obtain ⟨l, vs, h1, h2, r⟩ := own_at F hi
  refine ⟨.ref l, h1, tyV_lst h2, G0, ρ, G, F, he.mono ρ _ _ (fun c q v G' H' g w => ?_) q⟩
  obtain ⟨f', d, hc, hz, q'⟩ := asS_of q
  subst hc
  exact ⟨l, vs, v, rfl, rfl, g.h _ _ h2, by rw [r.length]; exact hz, L.nx _ _ _ _ ((F.gr g).change hi h1 ((r.same g.g).snoc (sh_inv w))) q'⟩
noncomputable def frz1 (i : Nat) (ρ : Env3) : Env3 := match ρ[i]? with
  | some (some (.ow f ds)) => ρ.set i (some (.sh f (.list ds)))
  | some (some (.tr _ ms)) => ρ.set i (some (.sh true (.list (ms.map PyData.list))))
  | _ => ρ
noncomputable def frz : List Nat → Env3 → Env3
  | [], ρ => ρ
  | i :: r, ρ => frz r (frz1 i ρ)
theorem Fr3.frz1 {K : PySem.W.Frag} {G0 : Hp} {ρ : Env3} {σ : L2.St} {G H : Hp} (F : Fr3 K H0 G0 ρ σ G H) (i : Nat) : ∃ G', Same G G' ∧ Fr3 K H0 G0 (L3.frz1 i ρ) σ G' H := by
  unfold L3.frz1
  split
  · rename_i f ds h; exact F.freeze h
  · rename_i ps ms h; exact F.freezeT h
  · exact ⟨G, Same.refl _, F⟩
theorem Fr3.frz {K : PySem.W.Frag} {G0 : Hp} {σ : L2.St} {H : Hp} : ∀ (is : List Nat) {ρ : Env3} {G : Hp}, Fr3 K H0 G0 ρ σ G H → ∃ G', Same G G' ∧ Fr3 K H0 G0 (L3.frz is ρ) σ G' H
  | [], ρ, G, F => ⟨G, Same.refl _, F⟩
  | i :: r, ρ, G, F => by
    obtain ⟨G1, s1, F1⟩ := F.frz1 i
    obtain ⟨G2, s2, F2⟩ := Fr3.frz r F1
    exact ⟨G2, s1.trans s2, F2⟩
noncomputable def frzS (is : List Nat) (t : TS3) : TS3 := fun A ρ => t A (frz is ρ)
theorem s_frz (is : List Nat) {t : TS3} (h : PS3 X H0 st t) : PS3 X H0 st (frzS is t) := PS.imp h fun B σ H => el7 fun G0 A ρ G F q L => by
  obtain ⟨G', s', F'⟩ := F.frz is
  exact ⟨G0, A, frz is ρ, G', F', q, L⟩
noncomputable def whN (c : TT3) (tb : TS3) (A : Ends3) : Nat → Env3 → Prop
  | 0, _ => False
  | n + 1, ρ => c ρ fun k => if k = true then tb { A with nx := whN c tb A n, ct := whN c tb A n, bk := A.nx } ρ else A.nx ρ
noncomputable def while3 (c : TT3) (tb : TS3) : TS3 := fun A ρ => ∃ n, whN c tb A n ρ
theorem s_while {body : List Stmt} {tc : TT3} {tb : TS3} (hp : PassesOwn (model X.prog X.w) X.A X.env X.xe) (hc : PT3 X H0 c tc) (hb : PSs3 X H0 body tb) : PS3 X H0 (.While c body [] pos) (while3 tc tb) := PS.imp (ps_while hp hc.ok hb) fun B σ H hyp => by
  obtain ⟨G0, A, ρ, G, F, ⟨n, q⟩, L⟩ := hyp
  refine ⟨fun m σ' H' => ∃ ρ' G', Fr3 X.K H0 G0 ρ' σ' G' H' ∧ whN tc tb A m ρ', ⟨n, ρ, G, F, q⟩, ?_⟩
  rintro m σ' H' ⟨ρ', G', F', q'⟩
  cases m with
  | zero => exact q'.elim
  | succ m =>
    refine ⟨G0, ρ', G', F', hc.mono ρ' _ _ (fun k q G2 H2 g => ?_) q'⟩
    cases k with
    | false => exact L.nx ρ' σ' G2 H2 (F'.gr g) q
    | true =>
      exact ⟨fun σ3 H3 => ∃ ρ3 G3, Fr3 X.K H0 G0 ρ3 σ3 G3 H3 ∧ whN tc tb A m ρ3, fun σ3 H3 h3 => ⟨m, Nat.lt_succ_self _, h3⟩,
        G0, _, ρ', G2, F'.gr g, q, ⟨fun ρ4 σ4 G4 H4 F4 q4 => ⟨ρ4, G4, F4, q4⟩, L.rt, L.nx, fun ρ4 σ4 G4 H4 F4 q4 => ⟨ρ4, G4, F4, q4⟩⟩⟩
structure ItOk (K : PySem.W.Frag) (H0 : Hp) (J : It) (fl : Bool) (ds : List D) (Gs : Hp) : Prop where
  go : ∀ (i : Nat) d G H, ds[i]? = some d → Same Gs G → Same G H → J.go i H ∧ ∀ x H', J.yld i H x H' → ∃ G', Gr G H G' H' ∧ Rf K H0 G' fl x d
  stop : ∀ (i : Nat) G H, i = ds.length → Same Gs G → Same G H → J.stop i H
noncomputable abbrev TI3 := Env3 → (Bool → List D → Prop) → Prop
noncomputable def liftI (K : PySem.W.Frag) (H0 : Hp) (t : TI3) : TI := fun σ H R => ∃ G0 ρ G, Fr3 K H0 G0 ρ σ G H ∧ t ρ fun f ds => ∀ J G' H', Gr G H G' H' → ItOk K H0 J f ds G' → R J H'
structure PI3 (X : Cx) (H0 : Hp) (tg iter : Expr) (t : TI3) : Prop where
  mono : ∀ ρ (Q Q' : Bool → List D → Prop), (∀ f c, Q f c → Q' f c) → t ρ Q → t ρ Q'
  ok : PI X tg iter (liftI X.K H0 t)
noncomputable def forL (g : TG3) (tb : TS3) (A : Ends3) (f : Bool) : List D → Env3 → Prop
  | [], ρ => A.nx ρ
  | d :: ds, ρ => g f d ρ fun ρ' => tb { A with nx := forL g tb A f ds, ct := forL g tb A f ds, bk := A.nx } ρ'
noncomputable def for3 (ti : TI3) (g : TG3) (tb : TS3) : TS3 := fun A ρ => ti ρ fun f ds => forL g tb A f ds ρ
theorem s_for {tg iter : Expr} {body : List Stmt} {ti : TI3} {g : TG3} {tb : TS3} (hp : PassesOwn (model X.prog X.w) X.A X.env X.xe) (hc : X.calm = true) (hi : PI3 X H0 tg iter ti) (hg : PG3 X H0 tg g) (hb : PSs3 X H0 body tb)
    (hs : ∀ x, foldedSetIterable iter X.env x = pure x := by intro _; rfl) : PS3 X H0 (.For tg iter body [] pos) (for3 ti g tb) := PS.imp (ps_for hp hc hi.ok hg.ok hb hs) fun B σ H => el7 fun G0 A ρ G F q L => by
  refine ⟨G0, ρ, G, F, hi.mono ρ _ _ (fun f ds k J G1 H1 g1 ok => ?_) q⟩
  have B1 : Fr3 X.K H0 G0 ρ σ G1 H1 := F.gr g1
  refine ⟨fun i m σ' H' => i ≤ ds.length ∧ m = ds.length - i ∧ ∃ ρ' G', Fr3 X.K H0 G1 ρ' σ' G' H' ∧ forL g tb A f (ds.drop i) ρ', ⟨ds.length, Nat.zero_le _, rfl, ρ, G1, B1.rebase, k⟩, ?_⟩
  rintro i m σ' H' ⟨hil, rfl, ρ', G', F', k'⟩
  by_cases hlt : i < ds.length
  · right
    have hd : ds[i]? = some ds[i] := List.getElem?_eq_getElem hlt
    obtain ⟨hgo, hy⟩ := ok.go i _ G' H' hd F'.g0 F'.sub
    rw [List.drop_eq_getElem_cons hlt] at k'
    refine ⟨hgo, fun σ2 H2 => ∃ ρ2 G2, Fr3 X.K H0 G1 ρ2 σ2 G2 H2 ∧ forL g tb A f (ds.drop (i + 1)) ρ2, fun σ2 H2 h2 => ⟨_, Nat.sub_lt_sub_left hlt (Nat.lt_succ_self _), Nat.succ_le_of_lt hlt, rfl, h2⟩, fun x H2 y => ?_⟩
    obtain ⟨G2, g2, r2⟩ := hy x H2 y
    refine ⟨G1, ρ', G2, f, _, F'.gr g2, r2, hg.mono f _ ρ' _ _ (fun ρ3 q3 σ3 G3 H3 F3 _ _ => ⟨G1, _, ρ3, G3, F3, q3, ?_⟩) k'⟩
    exact ⟨fun ρ4 σ4 G4 H4 F4 q4 => ⟨ρ4, G4, F4, q4⟩, fun f d v G4 H4 g4 r4 q4 => L.rt f d v G4 H4 (g4.back B1) r4 q4, fun ρ4 σ4 G4 H4 F4 q4 => L.nx ρ4 σ4 G4 H4 (F4.back B1) q4, fun ρ4 σ4 G4 H4 F4 q4 => ⟨ρ4, G4, F4, q4⟩⟩
  · left
    have e : i = ds.length := Nat.le_antisymm hil (Nat.not_lt.mp hlt)
    rw [e, List.drop_length] at k'
    exact ⟨ok.stop i G' H' e F'.g0 F'.sub, L.nx ρ' σ' G' H' (F'.back B1) k'⟩
theorem PI.imp {tg iter : Expr} {t t' : TI} (h : PI X tg iter t) (i : ∀ σ H R, t' σ H R → t σ H R) : PI X tg iter t' := fun pins s σ H R I q => h pins s σ H R I (i _ _ _ q)
noncomputable def itL (te : TE3) : TI3 := fun ρ Q => te ρ fun c => asL c Q
theorem itl_ok {K : PySem.W.Frag} {H0 G : Hp} {a : Addr} {xs : List V} {f : Bool} {ds : List D} (hq : SqL K G a xs) (r : Rfs K H0 G f xs ds) : ItOk K H0 (Itl K a) f ds G where
  go := fun i d G' H hd s1 s2 => by
    obtain ⟨x, hx, rx⟩ := r.get hd
    refine ⟨⟨xs, x, (s1.trans s2).seq hq, hx⟩, fun y H' ⟨e, hy⟩ => ?_⟩
    subst e
    have := hy xs ((s1.trans s2).seq hq)
    rw [hx] at this; cases this
    exact ⟨G', Gr.refl s2, rx.same s1⟩
  stop := fun i G' H hl s1 s2 => ⟨xs, (s1.trans s2).seq hq, by rw [r.length, hl]; exact Nat.le_refl _⟩
theorem it_list {tg iter : Expr} {te : TE3} (h : PE3 X H0 iter te) : PI3 X H0 tg iter (itL te) :=
  ⟨fun ρ Q Q' hq q => h.mono ρ _ _ (fun c q => by obtain ⟨f, ds, e, q⟩ := asL_of q; subst e; exact hq _ _ q) q, PI.imp (pi_list h.ok) fun σ H R => el5 fun G0 ρ G F q => ⟨G0, ρ, G, F, h.mono ρ _ _ (fun c hyp v G' H' g w => by
    obtain ⟨f, ds, e, k⟩ := asL_of hyp
    subst e
    obtain ⟨a, xs, rfl, hq, rs⟩ := rflst_inv (sh_inv w)
    exact ⟨a, rfl, ⟨xs, g.sub.seq hq⟩, k _ G' H' g (itl_ok hq rs)⟩) q⟩⟩
noncomputable def nums (lo : Int) (n : Nat) : List D := (List.range n).map fun i => .int (lo + (i : Nat))
theorem itr_ok {K : PySem.W.Frag} {H0 G : Hp} {lo : Int} {n : Nat} : ItOk K H0 (Itr lo n) true (nums lo n) G where
  go := fun i d G' H hd s1 s2 => by
    unfold nums at hd
    rw [List.getElem?_map] at hd
    by_cases hi : i < n
    · rw [List.getElem?_range hi] at hd
      cases hd
      exact ⟨hi, fun x H' ⟨e1, e2⟩ => by subst e1 e2; exact ⟨G', Gr.refl s2, .sc rfl (.int _)⟩⟩
    · rw [List.getElem?_eq_none (by simpa using hi)] at hd; cases hd
  stop := fun i G' H hl s1 s2 => by unfold nums at hl; show n ≤ i; simp at hl; omega
theorem int_inv {K : PySem.W.Frag} {G : Hp} {v : V} {i : Int} (r : RdV K G v (.int i)) : v = .int i := by cases r; rfl
theorem vws1 {K : PySem.W.Frag} {H0 G H : Hp} {vs : List V} {c : Cl} (w : Vws K H0 G H vs [c]) : ∃ v, vs = [v] ∧ Vw K H0 G H v c := by
  cases w with
  | cons a b => cases b; exact ⟨_, rfl, a⟩
theorem vws2 {K : PySem.W.Frag} {H0 G H : Hp} {vs : List V} {c d : Cl} (w : Vws K H0 G H vs [c, d]) : ∃ v u, vs = [v, u] ∧ Vw K H0 G H v c ∧ Vw K H0 G H u d := by
  cases w with
  | cons a b => obtain ⟨u, rfl, h⟩ := vws1 b; exact ⟨_, _, rfl, a, h⟩
noncomputable def rg1 (t : TA3) : TI3 := fun ρ Q => t ρ fun cs => ∃ j, cs = [.sh true (.int j)] ∧ (-(2 ^ 62) ≤ j ∧ j < 2 ^ 62) ∧ Q true (nums 0 j.toNat)
noncomputable def rg2 (t : TA3) : TI3 := fun ρ Q => t ρ fun cs => ∃ i j, cs = [.sh true (.int i), .sh true (.int j)] ∧ (-(2 ^ 62) ≤ i ∧ i < 2 ^ 62 ∧ -(2 ^ 62) ≤ j ∧ j < 2 ^ 62) ∧ Q true (nums i (j - i).toNat)
theorem it_range1 {tg a : Expr} {t : TA3} {p : Pos} (hg : Gl X "range") (hm : X.mg "range" = none) (ha : PA3 X H0 [a] t) (hs : starEach [a] X.env = [(false, eval a X.env)] := by rfl) : PI3 X H0 tg (.Call (.Name "range" p) [a] [] pos) (rg1 t) :=
  ⟨fun ρ Q Q' hq q => ha.mono ρ _ _ (fun c ⟨j, e, b, q⟩ => ⟨j, e, b, hq _ _ q⟩) q, PI.imp (pi_range1 hg hm ha.ok hs) fun σ H R => el5 fun G0 ρ G F q => ⟨G0, ρ, G, F, ha.mono ρ _ _ (fun c hyp vs G' H' g w => by
    obtain ⟨j, e, b, k⟩ := hyp
    subst e
    obtain ⟨v, rfl, w1⟩ := vws1 w
    cases int_inv (sh_inv w1).rd
    exact ⟨j, rfl, b.1, b.2, k _ G' H' g itr_ok⟩) q⟩⟩
theorem it_range2 {tg a b : Expr} {t : TA3} {p : Pos} (hg : Gl X "range") (hm : X.mg "range" = none) (ha : PA3 X H0 [a, b] t) (hs : starEach [a, b] X.env = [(false, eval a X.env), (false, eval b X.env)] := by rfl) (hs2 : starEach [b] X.env = [(false, eval b X.env)] := by rfl) : PI3 X H0 tg (.Call (.Name "range" p) [a, b] [] pos) (rg2 t) :=
  ⟨fun ρ Q Q' hq q => ha.mono ρ _ _ (fun c ⟨i, j, e, b, q⟩ => ⟨i, j, e, b, hq _ _ q⟩) q, PI.imp (pi_range2 hg hm ha.ok hs hs2) fun σ H R => el5 fun G0 ρ G F q => ⟨G0, ρ, G, F, ha.mono ρ _ _ (fun c hyp vs G' H' g w => by
    obtain ⟨i, j, e, b, k⟩ := hyp
    subst e
    obtain ⟨v, u, rfl, w1, w2⟩ := vws2 w
    cases int_inv (sh_inv w1).rd
    cases int_inv (sh_inv w2).rd
    exact ⟨i, j, rfl, b, k _ G' H' g itr_ok⟩) q⟩⟩
end
end L3
namespace L3
open PySem PySem.Spec PyProof.Rows L2
noncomputable def cst3 (n : Nat) (js : List Nat) (ρ : Env3) : Env3 := List.replicate n none ++ js.map fun j => (ρ[j]?).join
noncomputable def er (D : Addr) (H : Hp) : Hp := fun b => if b = D then none else H b
theorem er_same {D : Addr} {H : Hp} : er D H D = none := by unfold er; rw [if_pos rfl]
theorem er_ne {D b : Addr} {H : Hp} (h : b ≠ D) : er D H b = H b := by unfold er; rw [if_neg h]
theorem er_some {D b : Addr} {H : Hp} {o : HO} (h : er D H b = some o) : b ≠ D ∧ H b = some o := by
  by_cases e : b = D
  · subst e; rw [er_same] at h; cases h
  · rw [er_ne e] at h; exact ⟨e, h⟩
theorem er_upd {D : Addr} {H : Hp} {o : HO} (h : H D = some o) : upd (er D H) D o = H := by
  funext b
  by_cases e : b = D
  · subst e; rw [upd_same, h]
  · rw [upd_ne e, er_ne e]
theorem Gr.er {D : Addr} {G H G' H' : Hp} (g : Gr G H G' H') (hD : G' D = none) : Gr G (er D H) G' (er D H') where
  g := g.g
  h := fun b o e => by
    obtain ⟨n, e⟩ := er_some e
    rw [er_ne n]; exact g.h b o e
  sub := fun b o e => by
    rw [er_ne (ne_of_none e hD)]; exact g.sub b o e
  new := fun b o e => by
    rcases g.new b o e with q | q
    · exact .inl q
    · by_cases hb : b = D
      · subst hb; exact .inr er_same
      · exact .inr (by rw [er_ne hb]; exact q)
theorem mem_cst {α : Type} {n i : Nat} {js : List Nat} {l : List (Option α)} {x : α} (h : (List.replicate n none ++ js.map fun j => (l[j]?).join)[i]? = some (some x)) : ∃ j, n ≤ i ∧ js[i - n]? = some j ∧ l[j]? = some (some x) := by
  by_cases hi : i < n
  · rw [List.getElem?_append_left (by simpa using hi), List.getElem?_replicate, if_pos hi] at h
    cases h
  · rw [List.getElem?_append_right (by simpa using hi), List.length_replicate, List.getElem?_map] at h
    cases ej : js[i - n]? with
    | none => rw [ej] at h; cases h
    | some j =>
      rw [ej] at h
      have h' : (l[j]?).join = some x := Option.some.inj h
      refine ⟨j, Nat.not_lt.mp hi, rfl, ?_⟩
      cases q : l[j]? with
      | none => rw [q] at h'; cases h'
      | some o => rw [q] at h'; cases o with
        | none => cases h'
        | some v => cases h'; rfl
theorem cst_at {α : Type} {n i j : Nat} {js : List Nat} {l : List (Option α)} {x : α} (hi : n ≤ i) (hj : js[i - n]? = some j) (h : l[j]? = some (some x)) : (List.replicate n none ++ js.map fun j => (l[j]?).join)[i]? = some (some x) := by
  rw [List.getElem?_append_right (by simpa using hi), List.length_replicate, List.getElem?_map, hj]
  simp [h]
theorem Rf.asideU {K : PySem.W.Frag} {H0 G : Hp} {A : Addr} {ys : List V} {f : Bool} {v : V} {d : D} (r : Rf K H0 G f v d) (hA : G A = none) : Rf K (upd H0 A (.lst ys)) G f v d := ⟨r.rd, fun h => rdn_mono (Same.refl _) (fun a o e n => by rw [upd_ne (ne_of_none e hA)]; exact n) (r.nw h)⟩
theorem Rf.asideD {K : PySem.W.Frag} {H0 G : Hp} {A : Addr} {ys : List V} {f : Bool} {v : V} {d : D} (r : Rf K (upd H0 A (.lst ys)) G f v d) : Rf K H0 G f v d := ⟨r.rd, fun h => rdn_mono (Same.refl _) (fun a o e n => by
  have ha : a ≠ A := fun z => by subst z; rw [upd_same] at n; cases n
  rw [upd_ne ha] at n; exact n) (r.nw h)⟩
theorem Rf.aside {K : PySem.W.Frag} {H0 G : Hp} {A : Addr} {ys zs : List V} {f : Bool} {v : V} {d : D} (r : Rf K (upd H0 A (.lst ys)) G f v d) (hA : G A = none) : Rf K (upd H0 A (.lst zs)) G f v d := r.asideD.asideU hA
theorem Rfs.asideU {K : PySem.W.Frag} {H0 G : Hp} {A : Addr} {ys : List V} {f : Bool} {v : List V} {d : List D} (r : Rfs K H0 G f v d) (hA : G A = none) : Rfs K (upd H0 A (.lst ys)) G f v d := ⟨r.rd, fun h => rdns_mono (Same.refl _) (fun a o e n => by rw [upd_ne (ne_of_none e hA)]; exact n) (r.nw h)⟩
theorem Rfs.aside {K : PySem.W.Frag} {H0 G : Hp} {A : Addr} {ys zs : List V} {f : Bool} {v : List V} {d : List D} (r : Rfs K (upd H0 A (.lst ys)) G f v d) (hA : G A = none) : Rfs K (upd H0 A (.lst zs)) G f v d := ⟨r.rd, fun h => rdns_mono (Same.refl _) (fun a o e n => by
  rw [upd_ne (ne_of_none e hA)] at n ⊢; exact n) (r.nw h)⟩
theorem Dr.asideU {K : PySem.W.Frag} {H0 G : Hp} {A : Addr} {ys : List V} {kvs : List (List Key × V)} {ds : List (List Key × PyData)} (r : Dr K H0 G kvs ds) (hA : G A = none) : Dr K (upd H0 A (.lst ys)) G kvs ds := by
  induction r with
  | nil => exact .nil
  | cons a b ih => exact .cons (a.asideU hA) ih
theorem Dr.aside {K : PySem.W.Frag} {H0 G : Hp} {A : Addr} {ys zs : List V} {kvs : List (List Key × V)} {ds : List (List Key × PyData)} (r : Dr K (upd H0 A (.lst ys)) G kvs ds) (hA : G A = none) : Dr K (upd H0 A (.lst zs)) G kvs ds := by
  induction r with
  | nil => exact .nil
  | cons a b ih => exact .cons (a.aside hA) ih
theorem Vw.rebase {K : PySem.W.Frag} {H0 G H : Hp} {A : Addr} {v : V} {c : Cl} (w : Vw K H0 G (upd H A (.lst [])) v c) (s : Same G H) (hA : H A = none) : Vw K (upd H0 A (.lst [])) G (upd H A (.lst [])) v c := by
  have gA : G A = none := s.free hA
  cases w with
  | sh r => exact .sh (r.asideU gA)
  | ow h r n => exact .ow h (r.asideU gA) n
  | tr t =>
    refine .tr ⟨t.top, t.topG, t.nd, t.len, fun k p m h1 h2 => ?_⟩
    obtain ⟨vs, a, b, c⟩ := t.item k p m h1 h2
    exact ⟨vs, a, b, c.asideU gA⟩
  | dt h r n => exact .dt h (r.asideU gA) n
  | ex h => exact .ex h
section
variable {K : PySem.W.Frag} {H0 G0 : Hp} {ρ : Env3} {σ : L2.St} {G H : Hp} {D : Addr}
theorem Fr3.comp (F : Fr3 K H0 G0 ρ σ G H) (n : Nat) {js : List Nat} (hj : js.Nodup) (hD : H D = none) : Fr3 K (upd H0 D (.lst [])) G (cst3 n js ρ) (cst n js σ) G (upd H D (.lst [])) where
  keep := fun b o e => by
    by_cases hb : b = D
    · subst hb; rw [upd_same] at e ⊢; exact e
    · rw [upd_ne hb] at e ⊢; exact F.keep b o e
  sub := F.sub.trans (same_new hD _)
  old := fun b o e => .inl e
  g0 := Same.refl _
  slot := fun i c e => by
    obtain ⟨j, h1, h2, h3⟩ := mem_cst e
    obtain ⟨v, h4, h5⟩ := F.slot j c h3
    exact ⟨v, cst_at h1 h2 h4, (h5.gr (Gr.apart F.sub hD)).rebase F.sub hD⟩
  mine := fun i c v a e e' h => by
    obtain ⟨j, h1, h2, h3⟩ := mem_cst e
    obtain ⟨j', h1', h2', h3'⟩ := mem_cst e'
    rw [h2] at h2'; cases h2'
    obtain ⟨⟨o, q, _⟩, _⟩ := (F.vw h3 h3').has h
    rw [upd_ne (ne_of_none q hD)]; exact F.mine j c v a h3 h3' h
  apart := fun i k c1 c2 v1 v2 a e1 e2 e3 e4 q1 q2 => by
    obtain ⟨j, h1, h2, h3⟩ := mem_cst e1
    obtain ⟨j', h1', h2', h3'⟩ := mem_cst e2
    obtain ⟨j2, h4, h5, h6⟩ := mem_cst e3
    obtain ⟨j3, h7, h8, h9⟩ := mem_cst e4
    rw [h2] at h5; cases h5
    rw [h2'] at h8; cases h8
    have e := F.apart j j' c1 c2 v1 v2 a h3 h3' h6 h9 q1 q2
    subst e
    have ei : i - n = k - n := by
      obtain ⟨a1, b1⟩ := List.getElem?_eq_some_iff.mp h2
      obtain ⟨a2, b2⟩ := List.getElem?_eq_some_iff.mp h2'
      exact (List.getElem_inj hj).mp (b1.trans b2.symm)
    omega
  len := by unfold cst3 cst; simp
theorem Fr3.aside {ys zs : List V} (F : Fr3 K (upd H0 D (.lst ys)) G0 ρ σ G H) (hG0 : G0 D = none) : Fr3 K (upd H0 D (.lst zs)) G0 ρ σ G (upd H D (.lst zs)) := by
  have hD : H D = some (.lst ys) := F.keep D _ upd_same
  have hG : G D = none := by
    cases e : G D with
    | none => rfl
    | some o =>
      rcases F.old D o e with q | q
      · rw [hG0] at q; cases q
      · rw [upd_same] at q; cases q
  refine ⟨fun b o e => ?_, fun b o e => by rw [upd_ne (ne_of_none e hG)]; exact F.sub b o e, fun b o e => ?_, F.g0, fun i c e => ?_, fun i c v a e e' h => ?_, F.apart, F.len⟩
  · by_cases hb : b = D
    · subst hb; rw [upd_same] at e ⊢; exact e
    · rw [upd_ne hb] at e ⊢
      exact F.keep b o (by rw [upd_ne hb]; exact e)
  · rcases F.old b o e with q | q
    · exact .inl q
    · by_cases hb : b = D
      · subst hb; rw [upd_same] at q; cases q
      · rw [upd_ne hb] at q; exact .inr (by rw [upd_ne hb]; exact q)
  · obtain ⟨v, h1, h2⟩ := F.slot i c e
    refine ⟨v, h1, ?_⟩
    cases h2 with
    | sh r => exact .sh (r.aside hG)
    | ow h r n =>
      rename_i l vs f ds
      have hl : l ≠ D := fun z => by
        subst z
        have := F.mine i _ _ l e h1 rfl
        rw [upd_same] at this; cases this
      exact .ow (by rw [upd_ne hl]; exact h) (r.aside hG) n
    | dt h r n =>
      rename_i l kvs ds
      have hl : l ≠ D := fun z => by
        subst z
        have := F.mine i _ _ l e h1 rfl
        rw [upd_same] at this; cases this
      exact .dt (by rw [upd_ne hl]; exact h) (r.aside hG) n
    | tr t =>
      rename_i l ps ms
      have hl : ∀ a, Has (.tr ps ms) (.ref l) a → a ≠ D := fun a ha z => by
        subst z
        have := F.mine i _ _ a e h1 ha
        rw [upd_same] at this; cases this
      refine .tr ⟨by rw [upd_ne (hl l (.inl rfl))]; exact t.top, t.topG, t.nd, t.len, fun k p m h1 h2 => ?_⟩
      obtain ⟨vs, a, b, c⟩ := t.item k p m h1 h2
      exact ⟨vs, by rw [upd_ne (hl p (.inr (List.mem_of_getElem? h1)))]; exact a, b, c.aside hG⟩
    | ex h =>
      rename_i l C
      have hl : l ≠ D := fun z => by subst z; rw [hD] at h; cases h
      exact .ex (by rw [upd_ne hl]; exact h)
  · have q := F.mine i c v a e e' h
    have hl : a ≠ D := fun z => by subst z; rw [upd_same] at q; cases q
    rw [upd_ne hl] at q ⊢; exact q
theorem Fr3.atD {ys : List V} (F : Fr3 K (upd H0 D (.lst ys)) G0 ρ σ G H) (hG0 : G0 D = none) : G D = none ∧ H D = some (.lst ys) := by
  refine ⟨?_, F.keep D _ upd_same⟩
  cases e : G D with
  | none => rfl
  | some o =>
    rcases F.old D o e with q | q
    · rw [hG0] at q; cases q
    · rw [upd_same] at q; cases q
end
section
variable {X : Cx} {H0 : Hp} {pos : Pos}
structure PTs3 (X : Cx) (H0 : Hp) (es : List Expr) (t : TT3) : Prop where
  mono : ∀ ρ (Q Q' : Bool → Prop), (∀ c, Q c → Q' c) → t ρ Q → t ρ Q'
  ok : PTs X es (liftT X.K H0 t)
noncomputable def true3 : TT3 := fun _ Q => Q true
theorem pt_nil : PTs3 X H0 [] true3 := ⟨fun ρ Q Q' h q => h _ q, fun pins s σ H Q I => el5 fun G0 ρ G F q => pts_nil pins s σ H Q I (q G H (Gr.refl F.sub))⟩
theorem pt_one {c : Expr} {t : TT3} (h : PT3 X H0 c t) : PTs3 X H0 [c] t := ⟨h.mono, pts_one h.ok⟩
noncomputable def compL (g : TG3) (tt : TT3) (te : TE3) (f : Bool) : List D → Bool → List D → Env3 → (Bool → List D → Prop) → Prop
  | [], fa, acc, _, Q => Q fa acc
  | d :: ds, fa, acc, ρ, Q => g f d ρ fun ρ' => tt ρ' fun k => if k = true then te ρ' fun c => asS c fun fy y => compL g tt te f ds (fa && fy) (acc ++ [y]) ρ' Q else compL g tt te f ds fa acc ρ' Q
noncomputable def comp3 (ti : TI3) (g : TG3) (tt : TT3) (te : TE3) (n : Nat) (js : List Nat) : TN3 := fun ρ Q => ti ρ fun f ds => ds.length ≤ sizeLine ∧ compL g tt te f ds true [] (cst3 n js ρ) Q
theorem compL_mono {g : TG3} {tt : TT3} {te : TE3} (hg : ∀ f d ρ (Q Q' : Env3 → Prop), (∀ c, Q c → Q' c) → g f d ρ Q → g f d ρ Q') (ht : ∀ ρ (Q Q' : Bool → Prop), (∀ c, Q c → Q' c) → tt ρ Q → tt ρ Q') (he : ∀ ρ (Q Q' : Cl → Prop), (∀ c, Q c → Q' c) → te ρ Q → te ρ Q')
    {f : Bool} {Q Q' : Bool → List D → Prop} (h : ∀ f c, Q f c → Q' f c) : ∀ ds fa acc ρ, compL g tt te f ds fa acc ρ Q → compL g tt te f ds fa acc ρ Q'
  | [], fa, acc, ρ, q => h _ _ q
  | d :: ds, fa, acc, ρ, q => hg f d ρ _ _ (fun ρ' => ht ρ' _ _ fun k => by
    cases k with
    | true => exact he ρ' _ _ fun c q => by obtain ⟨fy, y, e, q⟩ := asS_of q; subst e; exact compL_mono hg ht he h ds _ _ ρ' q
    | false => exact compL_mono hg ht he h ds fa acc ρ') q
theorem js_nodup {tn fn N : List Str} {js : List Nat} (nd : (tn ++ fn).Nodup) (hj : js.map (fun j => N[j]?) = fn.map some) : js.Nodup := by
  have h1 : (fn.map some).Nodup := by
    have := (List.nodup_append.mp nd).2.1
    exact List.Pairwise.map some (fun a b h e => h (Option.some.inj e)) this
  rw [← hj] at h1
  exact List.Pairwise.of_map _ (fun a b h e => h (by rw [e])) h1
theorem comp_parts {elt tg : Expr} {ifs : List Expr} {scope : Scope} {N : List Str} {g : TG3} {tt : TT3} {te : TE3}
    (hb : ∀ H0 s H fp cl, PG3 (X.comp scope N s H fp cl) H0 tg g ∧ PTs3 (X.comp scope N s H fp cl) H0 ifs tt ∧ PE3 (X.comp scope N s H fp cl) H0 elt te) : ∀ s H fp cl, PG (X.comp scope N s H fp cl) tg (fun v σ H Q => ∃ H0, liftG X.K H0 g v σ H Q) ∧ PTs (X.comp scope N s H fp cl) ifs (fun σ H Q => ∃ H0, liftT X.K H0 tt σ H Q) ∧ PE (X.comp scope N s H fp cl) elt (fun σ H Q => ∃ H0, liftE X.K H0 te σ H Q) := fun s H fp cl =>
  ⟨fun pins s' σ H' v u Q I r ⟨h0, q⟩ => (hb h0 s H fp cl).1.ok pins s' σ H' v u Q I r q, fun pins s' σ H' Q I ⟨h0, q⟩ => (hb h0 s H fp cl).2.1.ok pins s' σ H' Q I q, fun pins s' σ H' Q I ⟨h0, q⟩ => (hb h0 s H fp cl).2.2.ok pins s' σ H' Q I q⟩
theorem comp_lift {Y Y' Y'' : Cx} {h1 h2 h3 : Hp} {elt tg iter : Expr} {ifs : List Expr} {ti : TI3} {g : TG3} {tt : TT3} {te : TE3} {n : Nat} {js : List Nat} (hjn : js.Nodup) (hi : PI3 X H0 tg iter ti) (m1 : PG3 Y h1 tg g) (m2 : PTs3 Y' h2 ifs tt) (m3 : PE3 Y'' h3 elt te) :
    ∀ σ H Q, liftN X.K H0 (comp3 ti g tt te n js) σ H Q → tComp (liftI X.K H0 ti) (fun v σ H Q => ∃ H0, liftG X.K H0 g v σ H Q) (fun σ H Q => ∃ H0, liftT X.K H0 tt σ H Q) (fun σ H Q => ∃ H0, liftE X.K H0 te σ H Q) n js σ H Q := by
  rintro σ H Q ⟨G0, ρ, G, F, q⟩
  refine ⟨G0, ρ, G, F, hi.mono ρ _ _ (fun fl ds ⟨hz, k⟩ J G1 H1 g1 ok A hA => ?_) q⟩
  have F1 := F.gr g1
  have gA : G1 A = none := g1.sub.free hA
  have h0A : H0 A = none := F1.keep.free hA
  refine ⟨fun i m ys σ2 H2 => i ≤ ds.length ∧ m = ds.length - i ∧ ys.length ≤ i ∧ ∃ ρ2 G2 fe es, Fr3 X.K (upd H0 A (.lst ys)) G1 ρ2 σ2 G2 H2 ∧ Rfs X.K H0 G2 fe ys es ∧ Gr G1 H1 G2 (er A H2) ∧ compL g tt te fl (ds.drop i) fe es ρ2 (fun f ds => ∀ l vs G' H', Gr G H G' H' → H' l = none → Rfs X.K H0 G' f vs ds → Q (.ref l) (upd H' l (.lst vs))),
    ⟨ds.length, Nat.zero_le _, rfl, Nat.le_refl _, cst3 n js ρ, G1, true, [], F1.comp n hjn hA, .nil, ?_, k⟩, ?_⟩
  · have e : er A (upd H1 A (.lst [])) = H1 := by
      funext b
      by_cases hb : b = A
      · subst hb; rw [er_same, hA]
      · rw [er_ne hb, upd_ne hb]
    rw [e]; exact Gr.refl g1.sub
  rintro i m ys σ2 H2 ⟨hil, rfl, hyl, ρ2, G2, fe, es, F2, r2, g2, k2⟩
  obtain ⟨hG2, hH2⟩ := F2.atD gA
  by_cases hlt : i < ds.length
  · right
    have hd : ds[i]? = some ds[i] := List.getElem?_eq_getElem hlt
    obtain ⟨hgo, hy⟩ := ok.go i _ G2 H2 hd F2.g0 F2.sub
    rw [List.drop_eq_getElem_cons hlt] at k2
    refine ⟨hgo, fun x H3 y => ?_⟩
    obtain ⟨G3, g3, r3⟩ := hy x H3 y
    have F3 := F2.gr g3
    refine ⟨upd H0 A (.lst ys), G1, ρ2, G3, fl, _, F3, r3.asideU (F3.atD gA).1, m1.mono fl _ ρ2 _ _ (fun ρ4 q4 σ4 G4 H4 F4 s4 g4 => ?_) k2⟩
    refine ⟨upd H0 A (.lst ys), G1, ρ4, G4, F4, m2.mono ρ4 _ _ (fun b q5 G5 H5 g5 => ?_) q4⟩
    have F5 := F4.gr g5
    have gg5 := (g3.trans g4).trans g5
    cases b with
    | true =>
      refine ⟨upd H0 A (.lst ys), G1, ρ4, G5, F5, m3.mono ρ4 _ _ (fun c q6 v G6 H6 g6 w6 => ?_) q5⟩
      obtain ⟨fy, y, hc, q6⟩ := asS_of q6
      subst hc
      have F6 := F5.gr g6
      obtain ⟨hG6, hH6⟩ := F6.atD gA
      have gg6 := gg5.trans g6
      refine ⟨hH6, Nat.lt_of_lt_of_le (Nat.lt_of_le_of_lt hyl hlt) hz, ds.length - (i + 1), Nat.sub_lt_sub_left hlt (Nat.lt_succ_self _), Nat.succ_le_of_lt hlt, rfl, by rw [List.length_append, List.length_singleton]; omega, ρ4, G6, _, es ++ [y], F6.aside gA, (r2.same gg6.g).snoc ((sh_inv w6).asideD), ?_, q6⟩
      have e : er A (upd H6 A (.lst (ys ++ [v]))) = er A H6 := by
        funext b
        by_cases hb : b = A
        · subst hb; rw [er_same, er_same]
        · rw [er_ne hb, er_ne hb, upd_ne hb]
      rw [e]
      exact g2.trans (gg6.er hG6)
    | false =>
      obtain ⟨hG5, hH5⟩ := F5.atD gA
      exact ⟨ds.length - (i + 1), Nat.sub_lt_sub_left hlt (Nat.lt_succ_self _), Nat.succ_le_of_lt hlt, rfl, Nat.le_succ_of_le hyl, ρ4, G5, fe, es, F5, r2.same gg5.g, g2.trans (gg5.er hG5), q5⟩
  · left
    have e : i = ds.length := Nat.le_antisymm hil (Nat.not_lt.mp hlt)
    rw [e, List.drop_length] at k2
    refine ⟨ok.stop i G2 H2 e F2.g0 F2.sub, ?_⟩
    have k3 := k2 A ys G2 (er A H2) (g1.trans g2) er_same r2
    rw [er_upd hH2] at k3
    exact k3
theorem comp_ok {elt tg iter : Expr} {ifs : List Expr} {scope : Scope} {ti : TI3} {g : TG3} {tt : TT3} {te : TE3} (tn fn : List Str) (js : List Nat) (hcalm : X.calm = true) (S : CompSc X.env.scope scope tn fn) (hj : js.map (fun j => X.N[j]?) = fn.map some) (hi : PI3 X H0 tg iter ti)
    (hb : ∀ H0 s H fp cl, PG3 (X.comp scope (tn ++ fn) s H fp cl) H0 tg g ∧ PTs3 (X.comp scope (tn ++ fn) s H fp cl) H0 ifs tt ∧ PE3 (X.comp scope (tn ++ fn) s H fp cl) H0 elt te)
    (hs : ∀ x, foldedSetIterable iter X.env x = pure x := by intro _; rfl) : PN3 X H0 (.ListComp elt [⟨tg, iter, ifs, 0⟩] scope pos) (comp3 ti g tt te tn.length js) := by
  obtain ⟨m1, m2, m3⟩ := hb H0 X.s₀ X.H₀ [] []
  have hjn := js_nodup S.nd hj
  refine ⟨fun ρ Q Q' h q => hi.mono ρ _ _ (fun f ds ⟨z, q⟩ => ⟨z, compL_mono m1.mono m2.mono m3.mono h ds _ _ _ q⟩) q, ?_⟩
  exact PE.imp (pe_comp (wi := liftI X.K H0 ti) (g := fun v σ H Q => ∃ H0, liftG X.K H0 g v σ H Q) (tt := fun σ H Q => ∃ H0, liftT X.K H0 tt σ H Q) (te := fun σ H Q => ∃ H0, liftE X.K H0 te σ H Q) tn fn js hcalm S hj hi.ok (comp_parts hb) hs) (comp_lift hjn hi m1 m2 m3)
end
noncomputable def start3 (N : List Str) (ds : List D) : Env3 := ds.map (fun d => some (.sh (scal3 d) d)) ++ List.replicate (N.length - ds.length) none
theorem fr3_start {K : PySem.W.Frag} {G H : Hp} {N : List Str} {vs : List V} {ds : List D} (s : Same G H) (r : RdVs K G vs ds) : Fr3 K H G (start3 N ds) (start N vs) G H := by
  have at3 : ∀ (i : Nat) c, (start3 N ds)[i]? = some (some c) → ∃ d, ds[i]? = some d ∧ c = .sh (scal3 d) d := fun i c e => by
    unfold start3 at e
    by_cases hi : i < ds.length
    · rw [List.getElem?_append_left (by simpa using hi), List.getElem?_map] at e
      cases q : ds[i]? with
      | none => rw [q] at e; cases e
      | some d => rw [q] at e; cases e; exact ⟨d, rfl, rfl⟩
    · rw [List.getElem?_append_right (by simpa using hi), List.getElem?_replicate] at e
      split at e <;> cases e
  refine ⟨Same.refl _, s, fun b o e => .inl e, Same.refl _, fun i c e => ?_, fun i c v a e _ h => ?_, fun i j c c' v v' a e _ _ _ h _ => ?_, ?_⟩
  · obtain ⟨d, hd, rfl⟩ := at3 i c e
    obtain ⟨x, hx, rx⟩ := r.get hd
    refine ⟨x, ?_, .sh ⟨rx, fun h => rdn_scal h rx⟩⟩
    unfold L2.start
    have hi : i < vs.length := (List.getElem?_eq_some_iff.mp hx).1
    rw [List.getElem?_append_left (by simpa using hi), List.getElem?_map, hx]; rfl
  · obtain ⟨d, hd, z⟩ := at3 i _ e; subst z; exact False.elim h
  · obtain ⟨d, hd, z⟩ := at3 i _ e; subst z; exact False.elim h
  · unfold start3 L2.start; simp [r.length]
theorem fn3 {P : Program} {w : World} {K : PySem.W.Frag} {mg : Str → Option Value} {base : Heap} {x qual : Str} {st : Stmt} {f : Addr} {fd : FuncData} {N ps : List Str} {k : Nat} {sp : Sp3} (F : Fun K x qual st f fd) (S : FnScope N ps (defScope st)) (len : ∀ ds Q E, sp ds Q E → ds.length = ps.length)
    (hbody : ∀ (cdv : Value) (A : Around) (outer : List Env) (s : Shared) (H : Hp) (E : XK) (E3 : Addr → Prop), (∀ C H', E3 C → Same H H' → E (.ref C) none H') → Room k (A.deeper (envOfC qual (defScope st) s.heap.objs.size f cdv)) →
      ∃ t, PSs3 (cxOf (CXR P w) P w K mg base N qual (defScope st) f cdv A outer s H E) H (defBody st) t ∧ ∀ ds Q, sp ds Q E3 → t { nx := fun _ => Q true .none, rt := Q } (start3 N ds)) : FnOk P w K mg base (CXR P w) (k + 1) f fd ps (spL K sp) := by
  refine F.okR S (fun vs H Q E h => ?_) (fun cdv A outer s H vs Q E hr h => ?_)
  · obtain ⟨G, ds, _, r, h⟩ := h
    rw [r.length]; exact len _ _ _ h
  · obtain ⟨G, ds, sG, r, h⟩ := h
    obtain ⟨t, ht, hq⟩ := hbody cdv A outer s H E (fun C => ∀ H', Same H H' → E (.ref C) none H') (fun C H' e z => e H' z) hr
    refine ⟨_, ht, G, _, start3 N ds, G, fr3_start sG r, hq ds _ h, ⟨fun ρ σ G' H' F' q => q .non G' H' F'.gr0 (.sc rfl .non), fun f d v G' H' g rd q => q v G' H' g rd, fun _ _ _ _ _ q => q.elim, fun _ _ _ _ _ q => q.elim⟩⟩
end L3
namespace L3
open PySem PySem.Spec PyProof.Rows L2
theorem str_inv {K : PySem.W.Frag} {G : Hp} {v : V} {i : Str} (r : RdV K G v (.str i)) : v = .str i := by cases r; rfl
theorem non_inv {K : PySem.W.Frag} {G : Hp} {v : V} (r : RdV K G v .none) : v = .non := by cases r; rfl
section
variable {X : Cx}
noncomputable def add3 : R3 := fun a b Q => match a, b with
  | .sh _ (.int i), .sh _ (.int j) => Q true (.int (i + j))
  | .sh _ (.str x), .sh _ (.str y) => x.length + y.length ≤ sizeLine ∧ Q true (.str (x ++ y))
  | _, _ => False
noncomputable def int3 (C : Int → Int → Prop) (g : Int → Int → D) : R3 := fun a b Q => match a, b with
  | .sh _ (.int i), .sh _ (.int j) => C i j ∧ Q true (g i j)
  | _, _ => False
noncomputable def int0 (g : Int → Int → D) : R3 := fun a b Q => match a, b with
  | .sh _ (.int i), .sh _ (.int j) => Q true (g i j)
  | _, _ => False
theorem add3_ok : OpOk X (binaryOp .Add) add3 := by
  refine ⟨fun a b Q Q' h q => ?_, fun H0 => OpR.imp (op_add.or op_add_str) fun x y H Q => el3 fun G a b s wa wb q => ?_⟩
  · unfold add3 at *; split at q
    · exact h _ _ q
    · exact ⟨q.1, h _ _ q.2⟩
    · exact q
  · unfold add3 at q; split at q
    · cases int_inv (sh_inv wa).rd; cases int_inv (sh_inv wb).rd
      exact .inl ⟨_, _, rfl, rfl, q _ G H (Gr.refl s) (.sc rfl (.int _))⟩
    · cases str_inv (sh_inv wa).rd; cases str_inv (sh_inv wb).rd
      exact .inr ⟨_, _, rfl, rfl, q.1, q.2 _ G H (Gr.refl s) (.sc rfl (.str _))⟩
    · exact q.elim
theorem opI3 {f : Value → Value → Sem Value} {C : Int → Int → Prop} {g : Int → Int → Int} (h : OpR X f (rI C fun i j => .int (g i j))) : OpOk X f (int3 C fun i j => .int (g i j)) := by
  refine ⟨fun a b Q Q' h q => ?_, fun H0 => OpR.imp h fun x y H Q => el3 fun G a b s wa wb q => ?_⟩
  · unfold int3 at *; split at q
    · exact ⟨q.1, h _ _ q.2⟩
    · exact q
  · unfold int3 at q; split at q
    · cases int_inv (sh_inv wa).rd; cases int_inv (sh_inv wb).rd
      exact ⟨_, _, rfl, rfl, q.1, q.2 _ G H (Gr.refl s) (.sc rfl (.int _))⟩
    · exact q.elim
theorem opB03 {f : Value → Value → Sem Value} {g : Int → Int → Bool} (h : OpR X f (rI0 fun i j => .bl (g i j))) : OpOk X f (int0 fun i j => .bool (g i j)) := by
  refine ⟨fun a b Q Q' h q => ?_, fun H0 => OpR.imp h fun x y H Q => el3 fun G a b s wa wb q => ?_⟩
  · unfold int0 at *; split at q
    · exact h _ _ q
    · exact q
  · unfold int0 at q; split at q
    · cases int_inv (sh_inv wa).rd; cases int_inv (sh_inv wb).rd
      exact ⟨_, _, rfl, rfl, q _ G H (Gr.refl s) (.sc rfl (.bl _))⟩
    · exact q.elim
theorem mul_ok : OpOk X (binaryOp .Mult) (int3 IntMulOk fun i j => .int (i * j)) := opI3 op_mulB
theorem fdiv_ok : OpOk X (binaryOp .FloorDiv) (int3 CDivP fun i j => .int (i / j)) := opI3 op_fdivP
theorem mod_ok : OpOk X (binaryOp .Mod) (int3 (fun _ j => 0 < j) fun i j => .int (i % j)) := opI3 op_mod
theorem pow_ok : OpOk X (binaryOp .Pow) (int3 CPowB fun i j => .int (i ^ j.toNat)) := opI3 op_powB
theorem lt_ok : OpOk X (compareOp .Lt) (int0 fun i j => .bool (decide (i < j))) := opB03 op_lt
theorem le_ok : OpOk X (compareOp .LtE) (int0 fun i j => .bool (decide (i ≤ j))) := opB03 op_le
theorem gt_ok : OpOk X (compareOp .Gt) (int0 fun i j => .bool (decide (j < i))) := opB03 op_gt
theorem UnR.imp {f : Value → Sem Value} {r r' : V → Hp → VK → Prop} (h : UnR X f r) (i : ∀ x H Q, r' x H Q → r x H Q) : UnR X f r' := fun pins s σ H x v Q I rx q => h pins s σ H x v Q I rx (i _ _ _ q)
noncomputable def eqOk : D → D → Prop
  | .str _, .str _ => True
  | .int _, .int _ => True
  | d, e => SeqAt.shaped d = true ∧ SeqAt.shaped e = true
noncomputable def eqv3 : D → D → Bool
  | .str x, .str y => decide (x = y)
  | .int x, .int y => decide (x = y)
  | d, e => PyData.eqv d e
noncomputable def eq3 : R3 := fun a b Q => a.dat = true ∧ b.dat = true ∧ eqOk a.d b.d ∧ Q true (.bool (eqv3 a.d b.d))
noncomputable def ne3 : R3 := fun a b Q => a.dat = true ∧ b.dat = true ∧ eqOk a.d b.d ∧ Q true (.bool (!eqv3 a.d b.d))
theorem eq_scal {d e : D} : (∃ x y, d = .str x ∧ e = .str y ∧ eqv3 d e = decide (V.str x = V.str y)) ∨ (∃ x y, d = .int x ∧ e = .int y ∧ eqv3 d e = decide (V.int x = V.int y)) ∨ (eqv3 d e = PyData.eqv d e ∧ (eqOk d e → SeqAt.shaped d = true ∧ SeqAt.shaped e = true)) := by
  cases d <;> cases e <;> first
    | exact .inr (.inr ⟨rfl, fun h => h⟩)
    | exact .inl ⟨_, _, rfl, rfl, by simp [eqv3]⟩
    | exact .inr (.inl ⟨_, _, rfl, rfl, by simp [eqv3]⟩)
theorem eq_ok (hu : X.A.units + 64 < cLine) : OpOk X (compareOp .Eq) eq3 := by
  refine ⟨fun a b Q Q' h ⟨x, y, z, q⟩ => ⟨x, y, z, h _ _ q⟩, fun H0 => OpR.imp (op_eq.or (op_eqD hu)) fun x y H Q ⟨G, a, b, s, wa, wb, ha, hb, ho, q⟩ => ?_⟩
  have ra := wa.rd s ha
  have rb := wb.rd s hb
  rcases eq_scal (d := a.d) (e := b.d) with ⟨i, j, e1, e2, e3⟩ | ⟨i, j, e1, e2, e3⟩ | ⟨e3, hs⟩
  · rw [e1] at ra; rw [e2] at rb
    cases str_inv ra; cases str_inv rb
    exact .inl ⟨rfl, by rw [← e3]; exact q _ G H (Gr.refl s) (.sc rfl (.bl _))⟩
  · rw [e1] at ra; rw [e2] at rb
    cases int_inv ra; cases int_inv rb
    exact .inl ⟨rfl, by rw [← e3]; exact q _ G H (Gr.refl s) (.sc rfl (.bl _))⟩
  · exact .inr ⟨_, _, ra, rb, (hs ho).1, (hs ho).2, by rw [← e3]; exact q _ G H (Gr.refl s) (.sc rfl (.bl _))⟩
theorem ne_ok (hu : X.A.units + 64 < cLine) : OpOk X (compareOp .NotEq) ne3 := by
  refine ⟨fun a b Q Q' h ⟨x, y, z, q⟩ => ⟨x, y, z, h _ _ q⟩, fun H0 => OpR.imp (op_ne.or (op_neD hu)) fun x y H Q ⟨G, a, b, s, wa, wb, ha, hb, ho, q⟩ => ?_⟩
  have ra := wa.rd s ha
  have rb := wb.rd s hb
  rcases eq_scal (d := a.d) (e := b.d) with ⟨i, j, e1, e2, e3⟩ | ⟨i, j, e1, e2, e3⟩ | ⟨e3, hs⟩
  · rw [e1] at ra; rw [e2] at rb
    cases str_inv ra; cases str_inv rb
    exact .inl ⟨rfl, by rw [← e3]; exact q _ G H (Gr.refl s) (.sc rfl (.bl _))⟩
  · rw [e1] at ra; rw [e2] at rb
    cases int_inv ra; cases int_inv rb
    exact .inl ⟨rfl, by rw [← e3]; exact q _ G H (Gr.refl s) (.sc rfl (.bl _))⟩
  · exact .inr ⟨_, _, ra, rb, (hs ho).1, (hs ho).2, by rw [← e3]; exact q _ G H (Gr.refl s) (.sc rfl (.bl _))⟩
noncomputable def isNone : Cl → Bool
  | .sh _ .none => true
  | _ => false
theorem isNone_iff {K : PySem.W.Frag} {H0 G H : Hp} {v : V} {c : Cl} (w : Vw K H0 G H v c) : decide (v = .non) = isNone c := by
  cases w with
  | sh r => cases r.rd <;> simp [isNone]
  | ow _ _ _ => simp [isNone]
  | tr _ => simp [isNone]
  | dt _ _ _ => simp [isNone]
  | ex _ => simp [isNone]
noncomputable def isN3 : R3 := fun a b Q => b = .sh true .none ∧ Q true (.bool (isNone a))
noncomputable def notN3 : R3 := fun a b Q => b = .sh true .none ∧ Q true (.bool (!isNone a))
theorem isN_ok : OpOk X (compareOp .Is) isN3 := ⟨fun a b Q Q' h ⟨e, q⟩ => ⟨e, h _ _ q⟩, fun H0 => OpR.imp op_isN fun x y H Q hyp => by
  obtain ⟨G, a, b, s, wa, wb, e, q⟩ := hyp
  subst e
  exact ⟨non_inv (sh_inv wb).rd, by rw [isNone_iff wa]; exact q _ G H (Gr.refl s) (.sc rfl (.bl _))⟩⟩
theorem notN_ok : OpOk X (compareOp .IsNot) notN3 := ⟨fun a b Q Q' h ⟨e, q⟩ => ⟨e, h _ _ q⟩, fun H0 => OpR.imp op_notN fun x y H Q hyp => by
  obtain ⟨G, a, b, s, wa, wb, e, q⟩ := hyp
  subst e
  exact ⟨non_inv (sh_inv wb).rd, by rw [isNone_iff wa]; exact q _ G H (Gr.refl s) (.sc rfl (.bl _))⟩⟩
noncomputable def ixD : D → Int → Option D
  | .list ds, i => atI ds i
  | .tuple ds, i => atI ds i
  | .str z, i => if z.length ≤ sizeLine then (atI z.cps.toList i).map fun c => .str ⟨#[c]⟩ else none
  | _, _ => none
noncomputable def ix3 : R3 := fun a b Q => match b with
  | .sh _ (.int i) => a.dat = true ∧ ∃ d, ixD a.d i = some d ∧ Q (a.f || scal3 d) d
  | _ => False
theorem atI_rd {K : PySem.W.Frag} {H0 G : Hp} {f : Bool} {vs : List V} {ds : List D} {i : Int} {d : D} (r : Rfs K H0 G f vs ds) (h : atI ds i = some d) : ∃ v, atI vs i = some v ∧ Rf K H0 G f v d := by
  unfold atI at *
  rw [r.length]
  cases e : ixN ds.length i with
  | none => rw [e] at h; cases h
  | some j =>
    rw [e] at h
    obtain ⟨x, hx, rx⟩ := r.get (i := j) (show ds[j]? = some d from h)
    exact ⟨x, hx, rx⟩
theorem IxR.imp {r r' : R2} (h : IxR X r) (i : ∀ x y H Q, r' x y H Q → r x y H Q) : IxR X r' := fun e f pins s σ H x y v u Q I rx ry q z => h e f pins s σ H x y v u Q I rx ry (i _ _ _ _ q) z
theorem ix_lift (H0 : Hp) : IxR X (liftR X.K H0 ix3) := IxR.imp ix_seq fun x y H Q => el3 fun G a b s wa wb q => by
  unfold ix3 at q; split at q
  · obtain ⟨ha, d, hd, q⟩ := q
    rename_i i
    cases int_inv (sh_inv wb).rd
    cases wa with
    | @sh v0 f d0 r =>
      cases d0 with
      | list ds =>
        obtain ⟨a, xs, rfl, hq, rs⟩ := rflst_inv r
        obtain ⟨v, hv, rv⟩ := atI_rd rs (show atI ds i = some d from hd)
        exact .inl ⟨_, _, _, v, rfl, rfl, s.seq hq, hv, q v G H (Gr.refl s) rv.or⟩
      | tuple ds =>
        obtain ⟨a, xs, rfl, hq, rs⟩ := rftup_inv r
        obtain ⟨v, hv, rv⟩ := atI_rd rs (show atI ds i = some d from hd)
        exact .inr (.inl ⟨_, _, _, v, rfl, rfl, s.tup hq, hv, q v G H (Gr.refl s) rv.or⟩)
      | str z =>
        cases str_inv r.rd
        have hd' : (if z.length ≤ sizeLine then (atI z.cps.toList i).map fun c => PyData.str ⟨#[c]⟩ else none) = some d := hd
        split at hd'
        · rename_i hz
          cases e : atI z.cps.toList i with
          | none => rw [e] at hd'; cases hd'
          | some c =>
            rw [e] at hd'; cases hd'
            exact .inr (.inr ⟨z, i, c, rfl, rfl, hz, e, q _ G H (Gr.refl s) (.sc rfl (.str _))⟩)
        · cases hd'
      | _ => cases hd
    | ow h rs n =>
      obtain ⟨v, hv, rv⟩ := atI_rd rs (show atI _ i = some d from hd)
      exact .inl ⟨_, _, _, v, rfl, rfl, SqL.of h, hv, q v G H (Gr.refl s) rv.or⟩
    | tr h => cases ha
    | dt _ _ _ => cases ha
    | ex h => cases ha
  · exact q.elim
theorem ix3_mono : ∀ a b (Q Q' : Bool → D → Prop), (∀ f c, Q f c → Q' f c) → ix3 a b Q → ix3 a b Q' := fun a b Q Q' h q => by
  unfold ix3 at *; split at q
  · obtain ⟨x, d, e, q⟩ := q; exact ⟨x, d, e, h _ _ q⟩
  · exact q
theorem at3 {H0 : Hp} {a b : Expr} {pos : Pos} {ta tb : TE3} (ha : PE3 X H0 a ta) (hb : PE3 X H0 b tb) (hs : PlainIx b) : PE3 X H0 (.Subscript a b pos) (o3 ix3 ta tb) :=
  ⟨o3_mono ix3_mono ha.mono hb.mono, PE.imp (pe_ix (ix_lift H0) ha.ok hb.ok hs) (o3_lift ix3_mono ha.mono hb.mono)⟩
theorem PO.imp {e : Option Expr} {t t' : TO} (h : PO X e t) (i : ∀ σ H Q, t' σ H Q → t σ H Q) : PO X e t' := fun pins s σ H Q I q => h pins s σ H Q I (i _ _ _ q)
variable {H0 : Hp} {pos p2 : Pos}
theorem SlR.imp {r r' : V → Option Int → Option Int → Hp → VK → Prop} (h : SlR X r) (i : ∀ x lo hi H Q, r' x lo hi H Q → r x lo hi H Q) : SlR X r' := by
  unfold SlR at *
  intros
  apply h <;> first | assumption | skip
  apply i; assumption
noncomputable def lenD : D → Option Nat
  | .list ds => some ds.length
  | .tuple ds => some ds.length
  | .str z => if z.length ≤ sizeLine then some z.length else none
  | _ => none
noncomputable def len3 : C3 := fun cs Q => match cs with
  | [c] => c.dat = true ∧ ∃ n, lenD c.d = some n ∧ Q true (.int n)
  | _ => False
theorem len_ok : CallOk X (.builtin "len") len3 := by
  refine ⟨fun cs Q Q' h q => ?_, fun H0 => CallR.imp (CallR.or call_len_seq call_len_str) fun xs H Q => el2 fun G cs s w q => ?_⟩
  · unfold len3 at *; split at q
    · obtain ⟨a, n, e, q⟩ := q; exact ⟨a, n, e, h _ _ q⟩
    · exact q
  · unfold len3 at q; split at q
    · obtain ⟨v, rfl, w1⟩ := vws1 w
      obtain ⟨ha, n, hn, q⟩ := q
      have r := w1.rd s ha
      generalize e : Cl.d _ = d at r hn
      cases r with
      | lst hq rs => cases hn; exact .inl ⟨_, _, rfl, .inl hq, by rw [rs.length]; exact q _ G H (Gr.refl s) (.sc rfl (.int _))⟩
      | tup hq rs => cases hn; exact .inl ⟨_, _, rfl, .inr hq, by rw [rs.length]; exact q _ G H (Gr.refl s) (.sc rfl (.int _))⟩
      | str z =>
        have hn' : (if z.length ≤ sizeLine then some z.length else none) = some n := hn
        split at hn'
        · rename_i hz; cases hn'; exact .inr ⟨z, rfl, hz, q _ G H (Gr.refl s) (.sc rfl (.int _))⟩
        · cases hn'
      | _ => cases hn
    · exact q.elim
noncomputable def min23 : C3 := fun cs Q => match cs with
  | [.sh _ (.int i), .sh _ (.int j)] => Q true (.int (if j < i then j else i))
  | _ => False
theorem min2_ok (hc : X.calm = true) : CallOk X (.builtin "min") min23 := by
  refine ⟨fun cs Q Q' h q => ?_, fun H0 => CallR.imp (call_min2 hc) fun xs H Q => el2 fun G cs s w q => ?_⟩
  · unfold min23 at *; split at q
    · exact h _ _ q
    · exact q
  · unfold min23 at q; split at q
    · obtain ⟨v, u, rfl, w1, w2⟩ := vws2 w
      cases int_inv (sh_inv w1).rd; cases int_inv (sh_inv w2).rd
      exact ⟨_, _, rfl, q _ G H (Gr.refl s) (.sc rfl (.int _))⟩
    · exact q.elim
end
end L3
namespace L2
open PySem PySem.Spec PyProof.Rows
section
variable {X : Cx}
noncomputable def isD : PyData → String → Option Bool
  | .int _, n => if n = "int" then some true else if n = "bool" then some false else none
  | .tuple _, n => if n = "tuple" then some true else none
  | .list _, n => if n = "list" then some true else none
  | .str _, n => if n = "str" then some true else none
  | .bool _, n => if n = "bool" then some true else none
  | _, _ => none
noncomputable def tyD : PyData → String
  | .int _ => "int"
  | .tuple _ => "tuple"
  | .list _ => "list"
  | .str _ => "str"
  | .bool _ => "bool"
  | _ => "NoneType"
theorem isD_isB {d : PyData} {n : String} {b : Bool} (h : isD d n = some b) : isB (tyD d) n = some b := by
  unfold isD at h
  split at h
  · split at h
    · rename_i e; subst e; cases h; rfl
    · split at h
      · rename_i e; subst e; cases h; rfl
      · cases h
  all_goals first
    | (split at h
       · rename_i e; subst e; cases h; rfl
       · cases h)
    | cases h
theorem call_isD : CallR X (.builtin "isinstance") (fun xs H Q => ∃ x n d b, xs = [x, .ty n] ∧ RdV X.K H x d ∧ isD d n = some b ∧ Q (.bl b) H) := by
  intro pins s σ H xs us Q I r h
  obtain ⟨x, n, d, b, rfl, rd, hb, q⟩ := h
  obtain ⟨u, c, rfl, rx, rc⟩ := vals2 r
  cases (show c = Value.type n from rc)
  have e := kit_of_isB (K := X.K) (isD_isB hb)
  have fin : ∀ tk, EP X pins σ Q (.bool b) { s with toks := tk } := fun tk => ⟨.bl b, H, I.tok tk, rfl, q⟩
  cases rd with
  | non => cases hb
  | bl y => cases (show u = Value.bool y from rx); exact PySem.W.kia_one PySem.W.kitx_bool I.kIn True.intro e (fun z => nomatch z) fin
  | int i => obtain ⟨t, q⟩ := (show ∃ t, u = Value.int i t from rx); cases q; exact PySem.W.kia_one PySem.W.kitx_int I.kIn True.intro e (fun z => nomatch z) fin
  | str y => obtain ⟨t, q⟩ := (show ∃ t, u = Value.str y t from rx); cases q; exact PySem.W.kia_one PySem.W.kitx_str I.kIn True.intro e (fun z => nomatch z) fin
  | lst hq rs =>
    cases rx
    obtain ⟨its, rv, ⟨o, n, ho, hc, _, hd⟩, _⟩ := I.list hq
    exact PySem.W.kia_one PySem.W.kitx_list I.kIn ⟨o, ho, hc⟩ e (fun z => nomatch z) fin
  | tup hq rs =>
    cases rx
    obtain ⟨its, rv, ⟨o, ho, hc, n, hd⟩, _⟩ := I.tuple hq
    exact PySem.W.kia_one PySem.W.kitx_tuple I.kIn ⟨o, ho, hc⟩ e (fun z => nomatch z) fin
end
end L2
namespace L2
open PySem PySem.Spec PyProof.Rows
section
variable {X : Cx}
theorem bools_of : ∀ {bs : List Bool} {us : List Value}, Vals (bs.map V.bl) us → us = bs.map Value.bool
  | [], _, .nil => rfl
  | b :: bs, _, .cons r t => by
    have e := bools_of (bs := bs) t
    rw [e]
    cases (show _ = Value.bool b from r)
    rfl
theorem range_all (bs : List Bool) : ((List.range bs.length).all fun i => bs.getD i false) = bs.all id := by
  rw [Bool.eq_iff_iff, List.all_eq_true, List.all_eq_true]
  constructor
  · intro h b hb
    obtain ⟨i, hi, rfl⟩ := List.mem_iff_getElem.mp hb
    have := h i (List.mem_range.mpr hi)
    rw [List.getD_eq_getElem?_getD, List.getElem?_eq_getElem hi] at this
    exact this
  · intro h i hi
    have hi' := List.mem_range.mp hi
    rw [List.getD_eq_getElem?_getD, List.getElem?_eq_getElem hi']
    exact h _ (List.getElem_mem hi')
theorem call_allL (hc : X.calm = true) : CallR X (.builtin "all") (fun xs H Q => ∃ (p : Addr) (bs : List Bool), xs = [.ref p] ∧ SqL X.K H p (bs.map V.bl) ∧ Q (.bl (bs.all id)) H) := by
  intro pins s σ H xs us Q I r h
  obtain ⟨p, bs, rfl, hq, q⟩ := h
  obtain ⟨u, rfl, ru⟩ := vals1 r
  cases (show u = Value.ref p from ru)
  obtain ⟨its, rv, pl, _⟩ := I.list hq
  cases bools_of rv
  have hl := pl.isList
  have hlt : p < s.heap.objs.size := by obtain ⟨_, e, _⟩ := hl; exact Heap.lt_size e
  refine call_all_walk (wpAny_pyIter_list hl ⟨_, _, _, _, _, _, fun i => bs.getD i false, rfl, Walks.list (A := X.A.in1) (I.ok.hd hc) _ p (Nat.ne_of_lt hlt) _, ⟨⟨_, Heap.get?_push_size _ rfl, rfl, rfl⟩, hl.push _⟩, fun i v s' Q' E' hP hQ => ?_, fun h' tk kp => ?_⟩)
  · have e : (bs.map Value.bool)[i]? = some v := by simpa using hP
    rw [List.getElem?_map] at e
    cases eb : bs[i]? with
    | none => rw [eb] at e; cases e
    | some b =>
      rw [eb] at e; cases e
      have : bs.getD i false = b := by rw [List.getD_eq_getElem?_getD, eb]; rfl
      have hQ' : Q' (bs.getD i false) s' := hQ
      rw [this] at hQ'
      exact wpAny_truthy_bool hQ'
  · refine ⟨.bl (bs.all id), H, I.kept (t' := tk) (old_kept kp), ?_, q⟩
    show Value.bool _ = Value.bool _
    rw [show (bs.map Value.bool).toArray.size = bs.length by simp, range_all]
end
end L2
namespace L3
open PySem PySem.Spec PyProof.Rows L2
section
variable {X : Cx} {H0 : Hp} {pos p : Pos} {e : Expr}
noncomputable def unBools : List D → Option (List Bool)
  | [] => some []
  | .bool i :: r => (unBools r).map (i :: ·)
  | _ :: _ => none
theorem unBools_map (ns : List Bool) : unBools (ns.map .bool) = some ns := by
  induction ns with
  | nil => rfl
  | cons a r ih => simp [unBools, ih]
theorem unBools_rd {K : PySem.W.Frag} {G : Hp} {vs : List V} {ds : List D} {ns : List Bool} (r : RdVs K G vs ds) (e : unBools ds = some ns) : vs = ns.map V.bl := by
  induction vs generalizing ds ns with
  | nil => cases r; cases e; rfl
  | cons v vs ih =>
    cases r with
    | @cons _ _ d ds a b =>
      cases d with
      | bool i =>
        have e' : (unBools ds).map (i :: ·) = some ns := e
        cases q : unBools ds with
        | none => rw [q] at e'; cases e'
        | some ms =>
          rw [q] at e'; cases e'
          rw [List.map_cons, ih b q, rdv_bool a]
      | _ => cases e
theorem seq_of {K : PySem.W.Frag} {H0 G H : Hp} {v : V} {c : Cl} {ds : List D} (w : Vw K H0 G H v c) (s : Same G H) (hd : c.dat = true) (h : c.d = .list ds) : ∃ a vs, v = .ref a ∧ SqL K H a vs ∧ Rfs K H0 G c.f vs ds := by
  cases w with
  | sh r =>
    have h' : _ = PyData.list ds := h
    subst h'
    obtain ⟨a, xs, rfl, hq, rs⟩ := rflst_inv r
    exact ⟨a, xs, rfl, s.seq hq, rs⟩
  | ow hh r n => cases h; exact ⟨_, _, rfl, SqL.of hh, r⟩
  | tr hh => cases hd
  | dt _ _ _ => cases hd
  | ex hh => cases hd
noncomputable def all3 : C3 := fun cs Q => match cs with
  | [c] => c.dat = true ∧ ∃ ds bs, c.d = .list ds ∧ unBools ds = some bs ∧ Q true (.bool (bs.all id))
  | _ => False
theorem all_ok (hc : X.calm = true) : CallOk X (.builtin "all") all3 := by
  refine ⟨fun cs Q Q' h q => ?_, fun H0 => CallR.imp (call_allL hc) fun xs H Q => el2 fun G cs s w q => ?_⟩
  · unfold all3 at *; split at q
    · obtain ⟨a, ds, ns, h1, h2, q⟩ := q; exact ⟨a, ds, ns, h1, h2, h _ _ q⟩
    · exact q
  · unfold all3 at q; split at q
    · obtain ⟨v, rfl, w1⟩ := vws1 w
      obtain ⟨a, ds, ns, h1, h2, q⟩ := q
      obtain ⟨l, vs, rfl, hq, rs⟩ := seq_of w1 s a h1
      cases unBools_rd rs.rd h2
      exact ⟨l, ns, rfl, hq, q _ G H (Gr.refl s) (.sc rfl (.bl _))⟩
    · exact q.elim
noncomputable def listN (t : TA3) : TN3 := fun ρ Q => t ρ fun cs => ∃ c ds, cs = [c] ∧ c.dat = true ∧ (c.d = .list ds ∨ c.d = .tuple ds) ∧ Q (c.f || ds.all scal3) ds
theorem list3 {x : Str} {es : List Expr} {t : TA3} (hg : Gl X x) (hm : X.mg x = none) (hv : bootBuiltins x = some (.type "list")) (ha : PA3 X H0 (e :: es) t) (hn : x ≠ "__name__" := by decide) (hdb : (x == ("__debug__" : Str)) = false := by decide)
    (he : starEach (e :: es) X.env = (false, eval e X.env) :: starEach es X.env := by rfl) (hpl : (backTo pos (starEach es X.env)).any (·.1) = false := by rfl) : PN3 X H0 (.Call (.Name x p) (e :: es) [] pos) (listN t) :=
  ⟨fun ρ Q Q' h q => ha.mono ρ _ _ (fun cs ⟨c, ds, a, b, d, q⟩ => ⟨c, ds, a, b, d, h _ _ q⟩) q, PE.imp (pe_callTy call_list_of hg hm hv ha.ok hn hdb he hpl) fun σ H Q => el5 fun G0 ρ G F q => ⟨G0, ρ, G, F, ha.mono ρ _ _ (fun cs hyp vs G1 H1 g1 w => by
    obtain ⟨c, ds, a, b, d, k⟩ := hyp
    subst a
    obtain ⟨v, rfl, w1⟩ := vws1 w
    rcases d with d | d
    · obtain ⟨l, us, rfl, hq, rs⟩ := seq_of w1 g1.sub b d
      exact ⟨l, us, rfl, .inl hq, fun l' hl => k l' us G1 H1 g1 hl rs.or⟩
    · cases w1 with
      | sh r =>
        have d' : _ = PyData.tuple ds := d
        subst d'
        obtain ⟨l, us, rfl, hq, rs⟩ := rftup_inv r
        exact ⟨l, us, rfl, .inr (g1.sub.tup hq), fun l' hl => k l' us G1 H1 g1 hl rs.or⟩
      | ow _ _ _ => cases d
      | tr _ => cases d
      | dt _ _ _ => cases d
      | ex _ => cases b) q⟩⟩
noncomputable def catN (ta tb : TE3) : TN3 := fun ρ Q => ta ρ fun a => tb ρ fun b => ∃ ds es, a.dat = true ∧ b.dat = true ∧ a.d = .list ds ∧ b.d = .list es ∧ ds.length + es.length ≤ sizeLine ∧ Q ((a.f || ds.all scal3) && (b.f || es.all scal3)) (ds ++ es)
theorem op_catS : OpR X (binaryOp .Add) (fun x y H Q => ∃ l b xs zs, x = .ref l ∧ y = .ref b ∧ SqL X.K H l xs ∧ SqL X.K H b zs ∧ xs.length + zs.length ≤ sizeLine ∧ ∀ p, H p = none → Q (.ref p) (upd H p (.lst (xs ++ zs)))) := by
  intro pins s σ H x y v u Q I rx ry h
  obtain ⟨l, b, xs, zs, rfl, rfl, hl, hb, hz, k⟩ := h
  cases rx
  cases ry
  obtain ⟨its, rv, pl, _⟩ := I.list hl
  obtain ⟨its', rv', pl', _⟩ := I.list hb
  obtain ⟨⟨cls, dd, data, sl⟩, ho, hc, n, hd⟩ := pl.isList
  obtain ⟨⟨cls2, dd2, data2, sl2⟩, ho2, hc2, n2, hd2⟩ := pl'.isList
  simp only at hc hd hc2 hd2
  subst hc hd hc2 hd2
  have e : its.toArray ++ its'.toArray = (its ++ its').toArray := by simp
  refine concat_meets ⟨_, ho, rfl⟩ ⟨_, ho2, rfl⟩ noFill_list_add seq_list_add PySem.F.slot_list_add PySem.F.entry_list_add (PySem.F.args_list_add_2 _ _) (list_addW l b its.toArray its'.toArray n n2 dd dd2 sl sl2 (by rw [List.size_toArray, List.size_toArray, ← rv.length, ← rv'.length]; exact hz)) ⟨ho, ho2, ?_⟩
  rw [e]
  exact ⟨.ref _, _, I.lnew (t' := s.toks) (rv.append rv') (by rw [List.length_append]; exact hz), rfl, k _ I.fresh⟩
theorem cat3 {a b : Expr} {ta tb : TE3} (ha : PE3 X H0 a ta) (hb : PE3 X H0 b tb) : PN3 X H0 (.BinOp a .Add b pos) (catN ta tb) :=
  ⟨fun ρ Q Q' h q => ha.mono ρ _ _ (fun a => hb.mono ρ _ _ fun b ⟨ds, es, h1, h2, h3, h4, h5, q⟩ => ⟨ds, es, h1, h2, h3, h4, h5, h _ _ q⟩) q, PE.imp (pe_op op_catS ha.ok hb.ok) fun σ H Q => el5 fun G0 ρ G F q => ⟨G0, ρ, G, F, ha.mono ρ _ _ (fun a qa v1 G1 H1 g1 w1 => ⟨G0, ρ, G1, F.gr g1, hb.mono ρ _ _ (fun b hyp v2 G2 H2 g2 w2 => by
    obtain ⟨ds, es, h1, h2, h3, h4, h5, k⟩ := hyp
    obtain ⟨l, us, rfl, hq, rs⟩ := seq_of (w1.gr g2) g2.sub h1 h3
    obtain ⟨m, us', rfl, hq', rs'⟩ := seq_of w2 g2.sub h2 h4
    exact ⟨l, m, us, us', rfl, rfl, hq, hq', by rw [rs.length, rs'.length]; exact h5, fun p hp => k p _ G2 H2 (g1.trans g2) hp (rs.or.append rs'.or)⟩) qa⟩) q⟩⟩
noncomputable def isi3' (n : String) (te : TE3) : TE3 := fun ρ Q => te ρ fun c => ∃ b, c.dat = true ∧ L2.isD c.d n = some b ∧ Q (.sh true (.bool b))
theorem isinst3 {nf : Str} {n : String} {x : Str} {p2 : Pos} {te : TE3} (hg : Gl X nf) (hm : X.mg nf = none) (hnf : nf = "isinstance") (hg2 : Gl X x) (hm2 : X.mg x = none) (hv : bootBuiltins x = some (.type n)) (he : PE3 X H0 e te) (hn : x ≠ "__name__" := by decide)
    (h1 : starEach [e, .Name x p2] X.env = (false, eval e X.env) :: starEach [.Name x p2] X.env := by rfl) (h2 : starEach [.Name x p2] X.env = (false, eval (.Name x p2) X.env) :: starEach [] X.env := by rfl)
    (hpl : (backTo pos (starEach [.Name x p2] X.env)).any (·.1) = false := by rfl) (hdx : (x == ("__debug__" : Str)) = false := by decide) : PE3 X H0 (.Call (.Name nf p) [e, .Name x p2] [] pos) (isi3' n te) := by
  subst hnf
  exact ⟨fun ρ Q Q' h q => he.mono ρ _ _ (fun c ⟨b, a, d, q⟩ => ⟨b, a, d, h _ q⟩) q, PE.imp (pe_callB (x := "isinstance") call_isD hg hm bo_isinstance (pa_cons he.ok (pa_cons (pe_bltn (v := .ty n) hg2 hm2 hv rfl hn hdx) pa_nil h2) h1) (by decide) (by decide) h1 hpl) fun σ H Q => el5 fun G0 ρ G F q => ⟨G0, ρ, G, F, he.mono ρ _ _ (fun c ⟨b, hd, hb, k⟩ v G1 H1 g1 w =>
    ⟨v, n, c.d, b, rfl, w.rd g1.sub hd, hb, k _ G1 H1 g1 (.sh (.sc rfl (.bl b)))⟩) q⟩⟩
end
end L3
namespace L3
open PySem PySem.Spec PyProof.Rows L2
section
variable {K : PySem.W.Frag} {H0 G0 : Hp} {ρ : Env3} {σ : L2.St} {G H : Hp}
theorem Fr3.exc (F : Fr3 K H0 G0 ρ σ G H) {i : Nat} {a C : Addr} (h : H a = some (excO a C)) : Fr3 K H0 G0 (ρ.set i (some (.ex C))) (σ.set i (some (.ref a))) G H := F.put (Same.refl _) (.ex h) fun _ h => False.elim h
theorem Fr3.gone (F : Fr3 K H0 G0 ρ σ G H) {i : Nat} : Fr3 K H0 G0 (ρ.set i none) (σ.set i none) G H where
  keep := F.keep
  sub := F.sub
  old := F.old
  g0 := F.g0
  slot := fun j c e => by
    rcases get_set e with ⟨rfl, q, hl⟩ | ⟨n, q⟩
    · cases q
    · obtain ⟨v', h1, h2⟩ := F.slot j c q
      exact ⟨v', by rw [List.getElem?_set_ne n]; exact h1, h2⟩
  mine := fun j c v a e e' h => by
    rcases get_set e with ⟨rfl, q, hl⟩ | ⟨n, q⟩
    · cases q
    · rw [List.getElem?_set_ne n] at e'
      exact F.mine j c v a q e' h
  apart := fun j k c1 c2 v1 v2 a e1 e2 e3 e4 h1 h2 => by
    rcases get_set e1 with ⟨rfl, q, hl⟩ | ⟨n, q⟩
    · cases q
    · rcases get_set e2 with ⟨rfl, q', hl⟩ | ⟨n', q'⟩
      · cases q'
      · rw [List.getElem?_set_ne n] at e3
        rw [List.getElem?_set_ne n'] at e4
        exact F.apart j k c1 c2 v1 v2 a q q' e3 e4 h1 h2
  len := by rw [List.length_set, List.length_set]; exact F.len
end
theorem PX.imp {X : Cx} {e : List Stmt} {t t' : TX} (h : PX X e t) (i : ∀ B E σ H, t' B E σ H → t B E σ H) : PX X e t' := fun pins s σ H B E I q => h pins s σ H B E I (i _ _ _ _ q)
section
variable {X : Cx} {H0 : Hp} {pos pos' p : Pos} {e : Expr} {es : List Expr} {x : Str}
end
end L3
namespace L3
open PySem PySem.Spec PyProof.Rows L2
theorem pass_no {P : Program} {w : World} {X : Cx} : Passes (CXR P w) X (fun _ _ _ => False) := fun _ _ _ _ _ _ _ ⟨_, _, _, _, _, h⟩ => h.elim
section
variable {X : Cx} {H0 : Hp} {pos : Pos} {x : Str}
end
theorem sz {n : Nat} (h : n ≤ 1000000) : n ≤ sizeLine := Nat.le_trans h (by decide)
theorem sz0 : (0 ≤ sizeLine) = True := eq_true (by decide)
theorem sz2 : (2 ≤ sizeLine) = True := eq_true (by decide)
theorem sz3 : (3 ≤ sizeLine) = True := eq_true (by decide)
theorem sz4 : (4 ≤ sizeLine) = True := eq_true (by decide)
theorem ints_rd {K : PySem.W.Frag} {H : Hp} : ∀ ns : List Int, RdVs K H (ns.map V.int) (ns.map PyData.int)
  | [] => .nil
  | a :: r => .cons (.int a) (ints_rd r)
theorem seq_step {a b : TS3} {A : Ends3} {ρ : Env3} (h : ∀ N : Env3 → Prop, (∀ ρ', b A ρ' → N ρ') → a { A with nx := N } ρ) : seq3 a b A ρ := h (b A) fun _ z => z
theorem seq_mid {a b : TS3} {A : Ends3} {ρ : Env3} (M : Env3 → Prop) (h1 : ∀ N : Env3 → Prop, (∀ ρ', M ρ' → N ρ') → a { A with nx := N } ρ) (h2 : ∀ ρ', M ρ' → b A ρ') : seq3 a b A ρ := h1 (b A) h2
theorem while_by {c : TT3} {tb : TS3} {A : Ends3} (P : Nat → Env3 → Prop) (h : ∀ n ρ, P n ρ → ∀ W : Env3 → Prop, (∀ m ρ', m < n → P m ρ' → W ρ') → c ρ fun k => if k = true then tb { A with nx := W, ct := W, bk := A.nx } ρ else A.nx ρ) : ∀ n ρ, P n ρ → whN c tb A (n + 1) ρ
  | n, ρ, p => by
    have key : ∀ k m ρ, m ≤ k → P m ρ → whN c tb A (k + 1) ρ := by
      intro k
      induction k with
      | zero => intro m ρ hm p; exact h m ρ p _ (fun m' ρ' hlt _ => absurd hlt (by omega))
      | succ k ih => intro m ρ hm p; exact h m ρ p _ (fun m' ρ' hlt p' => ih m' ρ' (by omega) p')
    exact key n n ρ (Nat.le_refl _) p
end L3
namespace L3
open PySem PySem.Spec PyProof.Rows L2
theorem comp_map {α : Type} {g : TG3} {tt : TT3} {te : TE3} {f : Bool} (enc out : α → D) (R : Env3 → Prop) : ∀ (xs : List α), (∀ x ∈ xs, ∀ ρ fa acc (K : Bool → List D → Env3 → Prop), R ρ → (∀ ρ', R ρ' → K fa (acc ++ [out x]) ρ') →
    g f (enc x) ρ fun ρ' => tt ρ' fun k => if k = true then te ρ' fun c => asS c fun fy y => K (fa && fy) (acc ++ [y]) ρ' else K fa acc ρ') → ∀ fa acc ρ (Q : Bool → List D → Prop), R ρ → Q fa (acc ++ xs.map out) → compL g tt te f (xs.map enc) fa acc ρ Q
  | [], _, fa, acc, ρ, Q, _, q => by show Q fa acc; simpa using q
  | x :: xs, s, fa, acc, ρ, Q, hR, q => s x List.mem_cons_self ρ fa acc (fun fa acc ρ' => compL g tt te f (xs.map enc) fa acc ρ' Q) hR fun ρ' hR' =>
      comp_map enc out R xs (fun y hy => s y (List.mem_cons_of_mem _ hy)) fa (acc ++ [out x]) ρ' Q hR' (by rw [List.append_assoc]; exact q)
theorem atI_map {α β : Type} (e : α → β) (xs : List α) (i : Int) : atI (xs.map e) i = (atI xs i).map e := by
  unfold atI
  rw [List.length_map]
  cases ixN xs.length i with
  | none => rfl
  | some j => simp
end L3
namespace L3
theorem nums_succ (lo : Int) (n : Nat) : nums lo (n + 1) = .int lo :: nums (lo + 1) n := by
  unfold nums
  rw [List.range_succ_eq_map, List.map_cons, List.map_map]
  congr 1
  · simp
  · apply List.map_congr_left
    intro i _
    simp only [Function.comp]
    congr 1
    omega
theorem for_nums {g : TG3} {tb : TS3} {A : Ends3} {f : Bool} {lo : Int} {n : Nat} (P : Nat → Env3 → Prop) (s : ∀ k ρ, k < n → P k ρ → ∀ W : Env3 → Prop, (∀ ρ', P (k + 1) ρ' → W ρ') → g f (.int (lo + k)) ρ fun ρ' => tb { A with nx := W, ct := W, bk := A.nx } ρ') (e : ∀ ρ, P n ρ → A.nx ρ) {ρ : Env3} (h : P 0 ρ) : forL g tb A f (nums lo n) ρ := by
  have key : ∀ m k ρ, k + m = n → P k ρ → forL g tb A f (nums (lo + k) m) ρ := by
    intro m
    induction m with
    | zero => intro k ρ hk p; have : k = n := by omega
              subst this; exact e ρ p
    | succ m ih =>
      intro k ρ hk p
      rw [nums_succ]
      refine s k ρ (by omega) p _ fun ρ' p' => ?_
      have := ih (k + 1) ρ' (by omega) p'
      rw [show lo + ((k + 1 : Nat) : Int) = lo + k + 1 by omega] at this
      exact this
  have := key n 0 ρ (by omega) h
  simpa using this
theorem for_list {α : Type} {g : TG3} {tb : TS3} {A : Ends3} {f : Bool} (enc : α → D) (l : List α) (P : List α → Env3 → Prop) (s : ∀ done x rest ρ, l = done ++ x :: rest → P done ρ → ∀ W : Env3 → Prop, (∀ ρ', P (done ++ [x]) ρ' → W ρ') → g f (enc x) ρ fun ρ' => tb { A with nx := W, ct := W, bk := A.nx } ρ') (e : ∀ ρ, P l ρ → A.nx ρ) {ρ : Env3} (h : P [] ρ) : forL g tb A f (l.map enc) ρ := by
  have key : ∀ rest done ρ, l = done ++ rest → P done ρ → forL g tb A f (rest.map enc) ρ := by
    intro rest
    induction rest with
    | nil => intro done ρ hl p; rw [List.append_nil] at hl; subst hl; exact e ρ p
    | cons x rest ih =>
      intro done ρ hl p
      exact s done x rest ρ hl p _ fun ρ' p' => ih (done ++ [x]) ρ' (by rw [hl, List.append_assoc]; rfl) p'
  exact key l [] ρ rfl h
end L3
namespace L3
open PySem L2
mutual
theorem eqv_refl : ∀ {d : D}, PyData.canLay0 d = true → PyData.eqv d d = true
  | .none, _ => by simp [PyData.eqv]
  | .bool b, _ => by simp [PyData.eqv]
  | .int i, _ => by simp [PyData.eqv]
  | .str x, _ => by simp [PyData.eqv]
  | .list xs, h => by
    have h' : PyData.canLayAll0 xs = true := by simpa [PyData.canLay0] using h
    simpa [PyData.eqv] using eqvAll_refl h'
  | .tuple xs, h => by
    have h' : PyData.canLayAll0 xs = true := by simpa [PyData.canLay0] using h
    simpa [PyData.eqv] using eqvAll_refl h'
  | .dict _, h => by simp [PyData.canLay0] at h
theorem eqvAll_refl : ∀ {ds : List D}, PyData.canLayAll0 ds = true → PyData.eqvAll ds ds = true
  | [], _ => by simp [PyData.eqvAll]
  | d :: ds, h => by
    have h' : PyData.canLay0 d = true ∧ PyData.canLayAll0 ds = true := by simpa [PyData.canLayAll0] using h
    simp [PyData.eqvAll, eqv_refl h'.1, eqvAll_refl h'.2]
end
noncomputable def Plain (n : Nat) (d : D) : Prop := PyData.canLay0 d = true ∧ PyData.depth d ≤ n
theorem Plain.shaped {n : Nat} {d : D} (h : Plain n d) (hn : n ≤ 64) : SeqAt.shaped d = true := by
  unfold SeqAt.shaped
  rw [h.1, Bool.true_and]
  exact decide_eq_true (Nat.le_trans h.2 hn)
theorem Plain.int (i : Int) : Plain 0 (.int i) := ⟨by simp [PyData.canLay0], by simp [PyData.depth]⟩
theorem Plain.bool (i : Bool) : Plain 0 (.bool i) := ⟨by simp [PyData.canLay0], by simp [PyData.depth]⟩
theorem Plain.none : Plain 0 .none := ⟨by simp [PyData.canLay0], by simp [PyData.depth]⟩
theorem plain_all {n : Nat} : ∀ {ds : List D}, (∀ d ∈ ds, Plain n d) → PyData.canLayAll0 ds = true ∧ PyData.depthAll ds ≤ n
  | [], _ => by simp [PyData.canLayAll0, PyData.depthAll]
  | d :: ds, h => by
    obtain ⟨h1, h2⟩ := h d List.mem_cons_self
    obtain ⟨h3, h4⟩ := plain_all (ds := ds) fun x hx => h x (List.mem_cons_of_mem _ hx)
    simp [PyData.canLayAll0, PyData.depthAll, h1, h3]
    omega
theorem Plain.list {n : Nat} {ds : List D} (h : ∀ d ∈ ds, Plain n d) : Plain (n + 1) (.list ds) := by
  obtain ⟨h1, h2⟩ := plain_all h
  exact ⟨by simp [PyData.canLay0, h1], by simp [PyData.depth, h2]⟩
theorem Plain.tuple {n : Nat} {ds : List D} (h : ∀ d ∈ ds, Plain n d) : Plain (n + 1) (.tuple ds) := by
  obtain ⟨h1, h2⟩ := plain_all h
  exact ⟨by simp [PyData.canLay0, h1], by simp [PyData.depth, h2]⟩
theorem Plain.mono {m n : Nat} {d : D} (h : Plain m d) (hn : m ≤ n) : Plain n d := ⟨h.1, Nat.le_trans h.2 hn⟩
theorem atI_lt {α : Type} {xs : List α} {i : Int} (h0 : 0 ≤ i) (h : i < xs.length) : ∃ x, atI xs i = some x ∧ x ∈ xs ∧ xs[i.toNat]? = some x := by
  have hk : i.toNat < xs.length := by omega
  refine ⟨xs[i.toNat], ?_, List.getElem_mem hk, List.getElem?_eq_getElem hk⟩
  have := atI_nat (xs := xs) (j := i.toNat) (List.getElem?_eq_getElem hk)
  rwa [show ((i.toNat : Nat) : Int) = i by omega] at this
end L3
namespace L2
open PySem PySem.Spec PyProof.Rows
section
variable {X : Cx}
end
end L2
namespace L3
open PySem PySem.Spec PyProof.Rows L2
section
variable {X : Cx} {H0 : Hp} {e : Expr} {pos p : Pos}
noncomputable def appPop3 (i j : Nat) (te : TE3) : TS3 := fun A ρ => ∃ f ds g es, ρ[i]? = some (some (.ow f ds)) ∧ ρ[j]? = some (some (.ow g es)) ∧ i ≠ j ∧ te ρ fun c => ∃ n d, c = .sh true (.int n) ∧ 0 ≤ n ∧ n < 2 ^ 62 ∧ es[n.toNat]? = some d ∧ ds.length < sizeLine ∧ A.nx ((ρ.set j (some (.ow g (es.eraseIdx n.toNat)))).set i (some (.ow (f && g) (ds ++ [d]))))
theorem s_appPop {i j : Nat} {te : TE3} {x y : Str} {np apos cpos np2 apos2 cpos2 : Pos} (hN : X.N[i]? = some x) (hv : Vis X.env.scope x) (hN2 : X.N[j]? = some y) (hv2 : Vis X.env.scope y) (he : PE3 X H0 e te) (hd : (x == ("__debug__" : Str)) = false := by decide) (hcd : (x == ("__classdict__" : Str)) = false := by decide)
    (hd2 : (y == ("__debug__" : Str)) = false := by decide) (hcd2 : (y == ("__classdict__" : Str)) = false := by decide)
    (hb : attributeBase (.Name x np) "append" X.env (eval (.Name x np) X.env) = eval (.Name x np) X.env := by rfl)
    (hb2 : attributeBase (.Name y np2) "pop" X.env (eval (.Name y np2) X.env) = eval (.Name y np2) X.env := by rfl)
    (hf : ((backTo cpos (starEach [(Expr.Call (.Attribute (.Name y np2) "pop" apos2) [e] [] cpos2)] X.env)).all (fun x => !x.1) && (backToKw cpos (keywordEach [] X.env)).all (fun x => x.1.isSome) && decide ([(Expr.Call (.Attribute (.Name y np2) "pop" apos2) [e] [] cpos2)].length + ([] : List Keyword).length + (if ([] : List Keyword).isEmpty then 0 else 1) < 30)) = true := by rfl)
    (hf2 : ((backTo cpos2 (starEach [e] X.env)).all (fun x => !x.1) && (backToKw cpos2 (keywordEach [] X.env)).all (fun x => x.1.isSome) && decide ([e].length + ([] : List Keyword).length + (if ([] : List Keyword).isEmpty then 0 else 1) < 30)) = true := by rfl)
    (hl : (apos.endLine == cpos.line) = true := by rfl) (hl2 : (apos2.endLine == cpos2.line) = true := by rfl)
    (hs : starEach [(Expr.Call (.Attribute (.Name y np2) "pop" apos2) [e] [] cpos2)] X.env = (false, eval (Expr.Call (.Attribute (.Name y np2) "pop" apos2) [e] [] cpos2) X.env) :: starEach [] X.env := by rfl)
    (hs2 : starEach [e] X.env = (false, eval e X.env) :: starEach [] X.env := by rfl)
    (hp : (backTo cpos (starEach [] X.env)).any (·.1) = false := by rfl) (hp2 : (backTo cpos2 (starEach [] X.env)).any (·.1) = false := by rfl)
    (hw : swapsWith (.Call (.Attribute (.Name x np) "append" apos) [(Expr.Call (.Attribute (.Name y np2) "pop" apos2) [e] [] cpos2)] [] cpos) none pos.line X.env = pure false := by rfl) :
    PS3 X H0 (.Expr (.Call (.Attribute (.Name x np) "append" apos) [(Expr.Call (.Attribute (.Name y np2) "pop" apos2) [e] [] cpos2)] [] cpos) pos) (appPop3 i j te) := by
  refine PS.imp (ps_expr (pe_append (pe_var hN hv hd hcd) (pa_cons (pe_popAt (pe_var hN2 hv2 hd2 hcd2) (pa_cons he.ok pa_nil hs2) hb2 hf2 hl2 hs2 hp2) pa_nil hs) hb hf hl hs hp) hw) fun B σ H hyp => ?_
  obtain ⟨G0, A, ρ, G, F, ⟨f, ds, g, es, hi, hj, hij, q⟩, L⟩ := hyp
  obtain ⟨l, vs, h1, h2, r⟩ := own_at F hi
  obtain ⟨m, us, k1, k2, t⟩ := own_at F hj
  refine ⟨.ref l, h1, tyV_lst h2, .ref m, k1, tyV_lst k2, G0, ρ, G, F, he.mono ρ _ _ (fun c hc0 v G' H' gr w => ?_) q⟩
  obtain ⟨n, d, hc, n0, n1, hd, hz, q⟩ := hc0
  subst hc
  have rk := (sh_inv w).rd
  cases rk
  obtain ⟨u, hu, ru⟩ := (t.same gr.g).get hd
  have hlen : n.toNat < us.length := (List.getElem?_eq_some_iff.mp hu).1
  have hix : seqIndex? n us.length = some n.toNat := by
    unfold seqIndex?
    rw [if_neg (show ¬ n < 0 by omega)]
    simp only []
    rw [if_pos (by simp only [Bool.and_eq_true, decide_eq_true_eq]; omega)]
  refine ⟨m, us, n, n.toNat, u, rfl, rfl, gr.h _ _ k2, by omega, by omega, hix, hu, ?_⟩
  have F1 := (F.gr gr).change hj k1 ((t.same gr.g).eraseIdx n.toNat)
  have hi' : (ρ.set j (some (.ow g (es.eraseIdx n.toNat))))[i]? = some (some (.ow f ds)) := by rw [List.getElem?_set_ne (Ne.symm hij)]; exact hi
  obtain ⟨l', vs', e1, e2, r'⟩ := own_at F1 hi'
  rw [h1] at e1
  cases e1
  refine ⟨l, vs', u, rfl, rfl, e2, by rw [r'.length]; exact hz, L.nx _ _ _ _ (F1.change hi' h1 (r'.snoc ru)) q⟩
end
end L3
namespace L3
open PySem PySem.Spec PyProof.Rows L2
section
variable {K : PySem.W.Frag} {H0 G0 : Hp} {ρ : Env3} {σ : L2.St} {G H G' H' : Hp}
end
section
variable {X : Cx} {H0 : Hp} {e : Expr} {es : List Expr} {pos p : Pos} {x : Str}
end

theorem rdns_len {K : PySem.W.Frag} {H0 G : Hp} {us : List V} {ds : List D} (h : RdNs K H0 G us ds) : us.length = ds.length := (rdns_rd h).length
section
variable {X : Cx}
end
end L3
namespace L2
open PySem PySem.Spec PyProof.Rows
section
variable {X : Cx}
end
end L2
namespace L3
open PySem PySem.Spec PyProof.Rows L2
section
variable {X : Cx} {H0 : Hp} {e : Expr} {pos : Pos}
noncomputable def thawT (is : List Nat) (t : TT3) : TT3 := fun ρ Q => t (frz is ρ) Q
theorem thaw_test (is : List Nat) {t : TT3} (h : PT3 X H0 e t) : PT3 X H0 e (thawT is t) :=
  ⟨fun ρ Q Q' hq q => h.mono _ _ _ hq q, PT.imp h.ok fun σ H Q => el5 fun G0 ρ G F q => by
    obtain ⟨G', s', F'⟩ := F.frz is
    exact ⟨G0, frz is ρ, G', F', h.mono _ _ _ (fun c k G1 H1 g1 => k G H1 ⟨Same.refl _, g1.h, F.sub.trans g1.h, fun _ _ e => .inl e⟩) q⟩⟩
end
end L3
namespace L2
open PySem PySem.Spec PyProof.Rows
theorem bo_enumerate : bootBuiltins "enumerate" = some (.type "enumerate") := by with_unfolding_all rfl
noncomputable def Ite (K : PySem.W.Frag) (a : Addr) : It :=
  ⟨fun i H => ∃ xs x, SqL K H a xs ∧ xs[i]? = some x,
   fun i H v H' => ∃ p x, H p = none ∧ v = .ref p ∧ H' = upd H p (.tup [.int i, x]) ∧ ∀ xs, SqL K H a xs → xs[i]? = some x,
   fun i H => ∃ xs, SqL K H a xs ∧ i = xs.length⟩
theorem turn_enum {P : Program} {w : World} {K : PySem.W.Frag} {elts : List Expr} {k : Nat} {pos : Pos} {e it l : Addr} (hei : e ≠ it) (hle : l ≠ e) (hli : l ≠ it) :
    Turn P w K (.Tuple elts k pos) (Ite K l) [e, it] e (fun i h => (∃ old, IsEnum h e it i old) ∧ h.IsListIter it l i) where
  mem := by simp
  obj := fun i h hyp c hc => by
    obtain ⟨⟨old, he⟩, ⟨o1, e1, c1, d1⟩⟩ := hyp
    have hc' : c = e ∨ c = it := by simpa using hc
    rcases hc' with rfl | rfl
    · exact ⟨_, he, fun v z => by cases (show Data.fields _ = Data.cell v from z)⟩
    · exact ⟨o1, e1, fun v z => by rw [d1] at z; cases z⟩
  keep := fun i h h' ⟨⟨old, he⟩, h1⟩ kk => ⟨⟨old, kk e (by simp) _ he⟩, h1.at fun o e => kk it (by simp) o e⟩
  item := by
    intro X hP hw hK hc i pins s σ H E I hf st hg
    subst hP hw hK
    obtain ⟨xs, x, q1, hx⟩ := hg
    obtain ⟨its1, r1, p1, _⟩ := I.list q1
    obtain ⟨u, hu, ru⟩ := r1.get hx
    have W := WalksT.enumerate (prog := X.prog) (w := X.w) (A := X.A) (I.ok.hd hc) e it l hei hle hli its1.toArray
    have hi : i < its1.toArray.size := by
      have a1 := (List.getElem?_eq_some_iff.mp hu).1
      simp only [List.size_toArray]; omega
    obtain ⟨he, h1⟩ := st
    have olt : ∀ b ∈ [e, it], b < s.heap.objs.size := fun b hb => by
      obtain ⟨old, he'⟩ := he
      have hc' : b = e ∨ b = it := by simpa using hb
      rcases hc' with rfl | rfl
      · exact Heap.lt_size he'
      · obtain ⟨_, e, _⟩ := h1; exact Heap.lt_size e
    refine W.item i s _ _ hi ⟨he, h1, p1.isList⟩ fun T vals h1' tk hv' hT hTup mid kp => ?_
    obtain ⟨t', u', hu', e'⟩ := hv'
    subst e'
    have eu : u' = u := by
      have : its1[i]? = some u' := by simpa using hu'
      rw [hu] at this; cases this; rfl
    subst eu
    refine ⟨_, rfl, W.go elts k pos i T _ _ _ mid fun h2' st2 kp2 => ?_⟩
    have I1 : Inv X pins σ H { s with heap := h2', toks := tk } := I.turnedL (ch := [e, it]) (fun b o hb e => kp2 b o hb (kp b o hb e)) fun b hb => hf b hb
    have hTn : H T = none := I.hok.fresh hT
    obtain ⟨o, ho, oc, on, od⟩ := hTup
    have ho2 := kp2 T o (W.apart i T _ mid) ho
    have I2 : Inv X pins σ (upd H T (.tup [.int i, x])) { s with heap := h2', toks := tk } := I1.track hTn (Nat.le_trans I.sz hT) (Nat.ne_of_gt (Nat.lt_of_lt_of_le I.lt hT)) (fun n c e z => by
        obtain ⟨vv, q⟩ := I.cell n c e
        exact absurd (Nat.lt_of_lt_of_le q.lt (by rw [z]; exact hT)) (Nat.lt_irrefl _)) (fun p hp z => absurd (Nat.lt_of_lt_of_le (Heap.lt_size (I.pin p hp).1) (by rw [z]; exact hT)) (Nat.lt_irrefl _))
      ⟨by show 2 ≤ sizeLine; decide, [.int i t', u'], .cons ⟨t', rfl⟩ (.cons ru .nil), o, ho2, oc, on, od⟩
    refine ⟨.ref T, _, I2, rfl, ⟨T, x, hTn, rfl, rfl, fun xs' z1 => ?_⟩, ⟨st2.1, st2.2.1⟩, fun b hb => ?_⟩
    · rw [I.list_inj z1 q1]; exact hx
    · rw [upd_ne (Nat.ne_of_lt (Nat.lt_of_lt_of_le (olt b hb) hT))]; exact (hf b hb).1
  done := by
    intro X hP hw hK hc i pins s σ H E I hf st hg
    subst hP hw hK
    obtain ⟨xs, q1, hi⟩ := hg
    obtain ⟨its1, r1, p1, _⟩ := I.list q1
    have W := WalksT.enumerate (prog := X.prog) (w := X.w) (A := X.A) (I.ok.hd hc) e it l hei hle hli its1.toArray
    obtain ⟨he, h1⟩ := st
    have ei : i = its1.toArray.size := by simp only [List.size_toArray]; rw [← r1.length]; exact hi
    subst ei
    refine W.done s _ _ ⟨he, h1, p1.isList⟩ fun h' tk kp => ⟨rfl, ?_⟩
    exact I.turnedL (ch := [e, it]) kp fun b hb => hf b hb
  self := fun _ _ _ _ _ st h => by obtain ⟨⟨old, he⟩, _⟩ := st; exact wpAny_pyIter_enum he h
noncomputable def iEnum (K : PySem.W.Frag) (ta : TA) : TI := fun σ H R => ta σ H fun vs H1 => ∃ a, vs = [.ref a] ∧ (∃ xs, SqL K H1 a xs) ∧ R (Ite K a) H1
theorem pi_enum {X : Cx} {elts : List Expr} {k : Nat} {tpos : Pos} {a : Expr} {ta : TA} {p pos : Pos} (hg : Gl X "enumerate") (hm : X.mg "enumerate" = none) (ha : PA X [a] ta) (hs : starEach [a] X.env = [(false, eval a X.env)] := by rfl) : PI X (.Tuple elts k tpos) (.Call (.Name "enumerate" p) [a] [] pos) (iEnum X.K ta) := by
  intro pins s σ H R I h
  refine Call_ (ld_blt I hg hm bo_enumerate (PyProof.Rows.callWith_type1 (thn (ha pos pins s σ H _ I h) fun us s1 ⟨vs, H1, I1, r1, q1⟩ => ?_) (by rw [hs]; rfl) rfl))
  obtain ⟨l1, e, ⟨xs, hx⟩, q⟩ := q1
  subst e
  obtain ⟨u, rfl, ru⟩ := vals1 r1
  cases (show u = Value.ref l1 from ru)
  obtain ⟨its1, _, p1, _⟩ := I1.list hx
  have lt1 : l1 < s1.heap.objs.size := by obtain ⟨o, e, _⟩ := p1.isList; exact Heap.lt_size e
  refine call_enumerate_list p1.isList fun h' he hi1 hsz kp => wpAny_pyIter_enum he ?_
  have I2 : Inv X pins σ H1 { s1 with heap := h' } := I1.kept (t' := s1.toks) kp
  refine ⟨_, [s1.heap.objs.size + 1, s1.heap.objs.size], _, Ite X.K l1, H1, rfl, I2, turn_enum (Nat.succ_ne_self _) (Nat.ne_of_lt (Nat.lt_succ_of_lt lt1)) (Nat.ne_of_lt lt1), ⟨⟨_, he⟩, hi1⟩, fun b hb => ?_, q⟩
  have hb' : s1.heap.objs.size ≤ b := by
    have hc' : b = s1.heap.objs.size + 1 ∨ b = s1.heap.objs.size := by simpa using hb
    rcases hc' with rfl | rfl <;> omega
  have f := I1.fpOk (H' := H1) hb' (I1.hok.fresh hb')
  exact ⟨f.1, f.2.1, f.2.2.1, f.2.2.2.1, f.2.2.2.2.1, f.2.2.2.2.2⟩
end L2
namespace L3
open PySem PySem.Spec PyProof.Rows L2
section
variable {X : Cx} {H0 : Hp} {pos p : Pos}
noncomputable def enumD (ds : List D) : List D := (List.range ds.length).map fun i => .tuple [.int (i : Nat), ds.getD i .none]
theorem enumD_length (ds : List D) : (enumD ds).length = ds.length := by unfold enumD; simp
theorem enumD_get {ds : List D} {i : Nat} {d : D} (h : (enumD ds)[i]? = some d) : ∃ a, d = .tuple [.int (i : Nat), a] ∧ ds[i]? = some a := by
  unfold enumD at h
  rw [List.getElem?_map] at h
  by_cases hi : i < ds.length
  · rw [List.getElem?_range hi] at h
    cases h
    exact ⟨ds[i], by simp [hi], List.getElem?_eq_getElem hi⟩
  · rw [List.getElem?_eq_none (by simp; omega)] at h; cases h
noncomputable def itE (t : TA3) : TI3 := fun ρ Q => t ρ fun cs => ∃ f as, cs = [.sh f (.list as)] ∧ Q f (enumD as)
theorem ite_ok {K : PySem.W.Frag} {H0 G : Hp} {a : Addr} {xs : List V} {f : Bool} {as : List D} (h1 : SqL K G a xs) (r1 : Rfs K H0 G f xs as) : ItOk K H0 (Ite K a) f (enumD as) G where
  go := fun i d G' H hd s1 s2 => by
    obtain ⟨q, rfl, hq⟩ := enumD_get hd
    obtain ⟨x, hx, rx⟩ := r1.get hq
    have ss := s1.trans s2
    refine ⟨⟨xs, x, ss.seq h1, hx⟩, fun v H' ⟨l, x', hl, e1, e2, hh⟩ => ?_⟩
    subst e1 e2
    have z1 := hh xs (ss.seq h1)
    rw [hx] at z1
    cases z1
    have gl := same_new (s2.free hl) (.tup [.int i, x])
    exact ⟨upd G' l (.tup [.int i, x]), Gr.put s2 hl, ⟨.tup (SqT.of upd_same) (.cons (.int _) (.cons (rdv_same (s1.trans gl) rx.rd) .nil)), fun hf =>
      .tup (SqT.of upd_same) (.cons (.int _) (.cons (rdn_mono (s1.trans gl) (fun _ _ _ z => z) (rx.nw hf)) .nil))⟩⟩
  stop := fun i G' H hl s1 s2 => ⟨xs, (s1.trans s2).seq h1, by rw [hl, enumD_length, r1.length]⟩
theorem it_enumerate {elts : List Expr} {k : Nat} {tpos : Pos} {a : Expr} {t : TA3} (hg : Gl X "enumerate") (hm : X.mg "enumerate" = none) (ha : PA3 X H0 [a] t) (hs : starEach [a] X.env = [(false, eval a X.env)] := by rfl) : PI3 X H0 (.Tuple elts k tpos) (.Call (.Name "enumerate" p) [a] [] pos) (itE t) :=
  ⟨fun ρ Q Q' h q => ha.mono ρ _ _ (fun cs ⟨f, as, e, q⟩ => ⟨f, as, e, h _ _ q⟩) q, PI.imp (pi_enum hg hm ha.ok hs) fun σ H R => el5 fun G0 ρ G F q => ⟨G0, ρ, G, F, ha.mono ρ _ _ (fun cs hyp vs G1 H1 g1 w => by
    obtain ⟨f, as, e, k⟩ := hyp
    subst e
    obtain ⟨v, rfl, w1⟩ := vws1 w
    obtain ⟨a, xs, rfl, hq, rs⟩ := rflst_inv (sh_inv w1)
    exact ⟨a, rfl, ⟨xs, g1.sub.seq hq⟩, k _ G1 H1 g1 (ite_ok hq rs)⟩) q⟩⟩
end
end L3
namespace L2
open PySem PySem.Spec PyProof.Rows
section
variable {κ : Type} [DecidableEq κ]
noncomputable def valV (kvs : List (κ × V)) (k : κ) : Option V := (kvs.find? fun kv => decide (kv.1 = k)).map (·.2)
noncomputable def putK (kvs : List (κ × V)) (k : κ) (v : V) : List (κ × V) :=
  if (kvs.any fun kv => decide (kv.1 = k)) = true then kvs.map (fun kv => if kv.1 = k then (kv.1, v) else kv) else kvs ++ [(k, v)]
noncomputable def dropK (kvs : List (κ × V)) (k : κ) : List (κ × V) := kvs.filter fun kv => decide (kv.1 ≠ k)

theorem valV_pos {p : κ × V} {r : List (κ × V)} {k : κ} (e : p.1 = k) : valV (p :: r) k = some p.2 := by simp [valV, List.find?_cons, e]
theorem valV_neg {p : κ × V} {r : List (κ × V)} {k : κ} (e : ¬ p.1 = k) : valV (p :: r) k = valV r k := by simp [valV, List.find?_cons, e]
theorem valV_any (k : κ) : ∀ kvs : List (κ × V), (kvs.any fun kv => decide (kv.1 = k)) = (valV kvs k).isSome
  | [] => rfl
  | p :: r => by
    rw [List.any_cons]
    by_cases e : p.1 = k
    · simp only [valV_pos e, decide_eq_true e, Bool.true_or, Option.isSome_some]
    · rw [valV_neg e, decide_eq_false e, Bool.false_or]; exact valV_any k r
theorem RelO.isSome_eq {o : Option V} {u : Option Value} (r : RelO o u) : o.isSome = u.isSome := by
  cases o with
  | none => cases u with
    | none => rfl
    | some _ => exact (show False from r).elim
  | some _ => cases u with
    | none => exact (show False from r).elim
    | some _ => rfl
theorem KV.val {kvs : List (κ × V)} {vs : List (κ × Value)} (r : KV kvs vs) (k : κ) : RelO (valV kvs k) (valueAt vs k) := by
  unfold KV at r
  induction r with
  | nil => exact True.intro
  | @cons p q ps qs h t ih =>
    obtain ⟨h1, h2⟩ := h
    by_cases e : p.1 = k
    · have e' : q.1 = k := h1.symm.trans e
      have b : valueAt (q :: qs) k = some q.2 := by simp [valueAt, List.find?_cons, e']
      rw [valV_pos e, b]; exact h2
    · have e' : ¬ q.1 = k := fun z => e (h1.trans z)
      have b : valueAt (q :: qs) k = valueAt qs k := by simp [valueAt, List.find?_cons, e']
      rw [valV_neg e, b]; exact ih
theorem KV.any {kvs : List (κ × V)} {vs : List (κ × Value)} (r : KV kvs vs) (k : κ) : (kvs.any fun kv => decide (kv.1 = k)) = vs.any fun kv => decide (kv.1 = k) := by
  unfold KV at r
  induction r with
  | nil => rfl
  | cons h t ih => rw [List.any_cons, List.any_cons, ih, h.1]
theorem KV.repl {kvs : List (κ × V)} {vs : List (κ × Value)} (r : KV kvs vs) (k : κ) {y : V} {u : Value} (ry : RelV y u) :
    KV (kvs.map fun kv => if kv.1 = k then (kv.1, y) else kv) (vs.map fun kv => if kv.1 = k then (kv.1, u) else kv) := by
  unfold KV at r ⊢
  induction r with
  | nil => exact .nil
  | @cons p q ps qs h t ih =>
    rw [List.map_cons, List.map_cons]
    refine .cons ?_ ih
    obtain ⟨h1, h2⟩ := h
    by_cases e : p.1 = k
    · rw [if_pos e, if_pos (h1.symm.trans e)]; exact ⟨h1, ry⟩
    · rw [if_neg e, if_neg (fun z => e (h1.trans z))]; exact ⟨h1, h2⟩
theorem KV.put {kvs : List (κ × V)} {vs : List (κ × Value)} (r : KV kvs vs) (k : κ) {y : V} {u : Value} (ry : RelV y u) : KV (putK kvs k y) (stored vs k u) := by
  unfold putK stored
  rw [r.any k]
  by_cases e : (vs.any fun kv => decide (kv.1 = k)) = true
  · rw [if_pos e, if_pos e]; exact r.repl k ry
  · rw [if_neg e, if_neg e]; exact Paired.snoc r ⟨rfl, ry⟩
theorem KV.drop {kvs : List (κ × V)} {vs : List (κ × Value)} (r : KV kvs vs) (k : κ) : KV (dropK kvs k) (without vs k) := by
  unfold KV at r ⊢
  unfold dropK without
  induction r with
  | nil => exact .nil
  | @cons p q ps qs h t ih =>
    obtain ⟨h1, h2⟩ := h
    rw [List.filter_cons, List.filter_cons]
    by_cases e : p.1 = k
    · have a : ¬ decide (p.1 ≠ k) = true := by simp [e]
      have b : ¬ decide (q.1 ≠ k) = true := by simp [h1.symm.trans e]
      rw [if_neg a, if_neg b]; exact ih
    · have e' : ¬ q.1 = k := fun z => e (h1.trans z)
      have a : decide (p.1 ≠ k) = true := by simp [e]
      have b : decide (q.1 ≠ k) = true := by simp [e']
      rw [if_pos a, if_pos b]; exact .cons ⟨h1, h2⟩ ih
theorem KV.length {kvs : List (κ × V)} {vs : List (κ × Value)} (r : KV kvs vs) : kvs.length = vs.length := Paired.length r
end


noncomputable abbrev KT (H : Hp) : List (List Key × V) → List (List Key × Addr × Value) → Prop := Paired fun p q => p.1 = q.1 ∧ H q.2.1 = some (.tup (p.1.map kV)) ∧ RelV p.2 q.2.2
theorem KT.val {H : Hp} {kvs : List (List Key × V)} {xs : List (List Key × Addr × Value)} (r : KT H kvs xs) (k : List Key) : RelO (valV kvs k) ((atKey xs k).map (·.2)) := by
  induction r with
  | nil => exact True.intro
  | @cons p q ps qs h t ih =>
    obtain ⟨h1, _, h2⟩ := h
    by_cases e : p.1 = k
    · have e' : q.1 = k := h1.symm.trans e
      have b : atKey (q :: qs) k = some q.2 := by simp [atKey, List.find?_cons, e']
      rw [valV_pos e, b]; exact h2
    · have e' : ¬ q.1 = k := fun z => e (h1.trans z)
      have b : atKey (q :: qs) k = atKey qs k := by simp [atKey, List.find?_cons, e']
      rw [valV_neg e, b]; exact ih
theorem KT.repl {H : Hp} {kvs : List (List Key × V)} {xs : List (List Key × Addr × Value)} (r : KT H kvs xs) (k : List Key) {y : V} {u : Value} (ry : RelV y u) :
    KT H (kvs.map fun kv => if kv.1 = k then (kv.1, y) else kv) (xs.map (putAt k u)) := by
  induction r with
  | nil => exact .nil
  | @cons p q ps qs h t ih =>
    rw [List.map_cons, List.map_cons]
    refine .cons ?_ ih
    obtain ⟨h1, h2, h3⟩ := h
    unfold putAt
    by_cases e : p.1 = k
    · rw [if_pos e, if_pos (h1.symm.trans e)]; exact ⟨h1, h2, ry⟩
    · rw [if_neg e, if_neg (fun z => e (h1.trans z))]; exact ⟨h1, h2, h3⟩
theorem KT.put {H : Hp} {kvs : List (List Key × V)} {xs : List (List Key × Addr × Value)} (r : KT H kvs xs) (k : List Key) {b : Addr} {y : V} {u : Value} (hb : H b = some (.tup (k.map kV))) (ry : RelV y u) :
    KT H (putK kvs k y) (storedH xs k b u) := by
  have e : (kvs.any fun kv => decide (kv.1 = k)) = (atKey xs k).isSome := by
    rw [valV_any, (r.val k).isSome_eq, Option.isSome_map]
  unfold putK storedH
  rw [e]
  by_cases q : (atKey xs k).isSome = true
  · rw [if_pos q, if_pos q]; exact r.repl k ry
  · rw [if_neg q, if_neg q]; exact Paired.snoc r ⟨rfl, hb, ry⟩
section
variable {P : Program} {w : World} {H : Hp} {h : Heap} {a : Addr}
end

noncomputable def DGet (H : Hp) (a : Addr) (y : V) (r : Option V) : Prop :=
  (∃ kvs k, Rd H a (.dK kvs) ∧ y = kV k ∧ r = valV kvs k) ∨ ∃ kvs k b, Rd H a (.dT kvs) ∧ y = .ref b ∧ H b = some (.tup (k.map kV)) ∧ r = valV kvs k
noncomputable def DPut (H : Hp) (a : Addr) (y v : V) (H' : Hp) : Prop :=
  (∃ kvs k, H a = some (.dK kvs) ∧ y = kV k ∧ kvs.length < sizeLine ∧ H' = upd H a (.dK (putK kvs k v))) ∨
  ∃ kvs k b, H a = some (.dT kvs) ∧ y = .ref b ∧ H b = some (.tup (k.map kV)) ∧ kvs.length < sizeLine ∧ H' = upd H a (.dT (putK kvs k v))
theorem DGet.k {H : Hp} {a : Addr} {kvs : List (Key × V)} {k : Key} (e : H a = some (.dK kvs)) : DGet H a (kV k) (valV kvs k) := .inl ⟨kvs, k, .inl e, rfl, rfl⟩
theorem DGet.t {H : Hp} {a b : Addr} {kvs : List (List Key × V)} {k : List Key} (e : H a = some (.dT kvs)) (eb : H b = some (.tup (k.map kV))) : DGet H a (.ref b) (valV kvs k) := .inr ⟨kvs, k, b, .inl e, rfl, eb, rfl⟩
theorem DPut.k {H : Hp} {a : Addr} {kvs : List (Key × V)} {k : Key} {v : V} (e : H a = some (.dK kvs)) (hl : kvs.length < sizeLine) : DPut H a (kV k) v (upd H a (.dK (putK kvs k v))) := .inl ⟨kvs, k, e, rfl, hl, rfl⟩
theorem DPut.t {H : Hp} {a b : Addr} {kvs : List (List Key × V)} {k : List Key} {v : V} (e : H a = some (.dT kvs)) (eb : H b = some (.tup (k.map kV))) (hl : kvs.length < sizeLine) :
    DPut H a (.ref b) v (upd H a (.dT (putK kvs k v))) := .inr ⟨kvs, k, b, e, rfl, eb, hl, rfl⟩


section
variable {X : Cx} {pins : List (Addr × Obj)} {σ : St} {H : Hp} {s : Shared} {a : Addr} {y v : V} {u r : Value} {o : Option V} {A : Around} {E : Value → Shared → Prop}

end

section
variable {X : Cx} {pins : List (Addr × Obj)} {σ : St} {H : Hp} {s : Shared} {a : Addr} {kvs : List (Key × V)} {k : Key} {u : Value} {A : Around} {E : Value → Shared → Prop}
end


section
variable {X : Cx} {o i e value : Expr} {pos pos' tpos : Pos} {td ty tv : TE}
end


section
variable {X : Cx} {pos : Pos}
end

end L2
namespace L3
open PySem PySem.Spec PyProof.Rows L2
noncomputable def getT (ds : List (List Key × D)) (k : List Key) : Option D := (ds.find? fun kv => decide (kv.1 = k)).map (·.2)
noncomputable def putT (ds : List (List Key × D)) (k : List Key) (d : D) : List (List Key × D) :=
  if (ds.any fun kv => decide (kv.1 = k)) = true then ds.map (fun kv => if kv.1 = k then (kv.1, d) else kv) else ds ++ [(k, d)]
theorem getT_pos {k : List Key} {d : D} {ds : List (List Key × D)} : getT ((k, d) :: ds) k = some d := by simp [getT]
theorem getT_neg {k' k : List Key} {d : D} {ds : List (List Key × D)} (e : ¬ k' = k) : getT ((k', d) :: ds) k = getT ds k := by simp [getT, List.find?_cons, e]
section
variable {K : PySem.W.Frag} {H0 G0 : Hp} {ρ : Env3} {σ : L2.St} {G H : Hp}
theorem Dr.get {kvs : List (List Key × V)} {ds : List (List Key × D)} (r : Dr K H0 G kvs ds) {k : List Key} {d : D} (h : getT ds k = some d) : ∃ v, valV kvs k = some v ∧ Rf K H0 G true v d := by
  induction r with
  | nil => cases h
  | cons a b ih =>
    rename_i k' v' d' kvs' ds'
    by_cases e : k' = k
    · subst e
      rw [getT_pos] at h; cases h
      exact ⟨v', valV_pos rfl, a⟩
    · rw [getT_neg e] at h
      obtain ⟨v, h1, h2⟩ := ih h
      exact ⟨v, by rw [valV_neg e]; exact h1, h2⟩
theorem Dr.some {kvs : List (List Key × V)} {ds : List (List Key × D)} (r : Dr K H0 G kvs ds) (k : List Key) : (valV kvs k).isSome = (getT ds k).isSome := by
  induction r with
  | nil => rfl
  | cons a b ih =>
    rename_i k' v' d' kvs' ds'
    by_cases e : k' = k
    · subst e; rw [valV_pos rfl, getT_pos]; rfl
    · rw [valV_neg e, getT_neg e]; exact ih
theorem Dr.any {kvs : List (List Key × V)} {ds : List (List Key × D)} (r : Dr K H0 G kvs ds) (k : List Key) : (kvs.any fun kv => decide (kv.1 = k)) = ds.any fun kv => decide (kv.1 = k) := by
  induction r with
  | nil => rfl
  | cons a b ih => rw [List.any_cons, List.any_cons, ih]
theorem Dr.snoc {kvs : List (List Key × V)} {ds : List (List Key × D)} (r : Dr K H0 G kvs ds) {k : List Key} {v : V} {d : D} (a : Rf K H0 G true v d) : Dr K H0 G (kvs ++ [(k, v)]) (ds ++ [(k, d)]) := by
  induction r with
  | nil => exact .cons a .nil
  | cons a b ih => exact .cons a ih
theorem Dr.repl {kvs : List (List Key × V)} {ds : List (List Key × D)} (r : Dr K H0 G kvs ds) {k : List Key} {v : V} {d : D} (a : Rf K H0 G true v d) : Dr K H0 G (kvs.map fun kv => if kv.1 = k then (kv.1, v) else kv) (ds.map fun kv => if kv.1 = k then (kv.1, d) else kv) := by
  induction r with
  | nil => exact .nil
  | cons b c ih =>
    rename_i k' v' d' kvs' ds'
    rw [List.map_cons, List.map_cons]
    by_cases e : k' = k
    · rw [if_pos e, if_pos e]; exact .cons a ih
    · rw [if_neg e, if_neg e]; exact .cons b ih
theorem Dr.put {kvs : List (List Key × V)} {ds : List (List Key × D)} (r : Dr K H0 G kvs ds) {k : List Key} {v : V} {d : D} (a : Rf K H0 G true v d) : Dr K H0 G (putK kvs k v) (putT ds k d) := by
  unfold putK putT
  rw [r.any]
  split
  · exact r.repl a
  · exact r.snoc a
theorem Dr.length {kvs : List (List Key × V)} {ds : List (List Key × D)} (r : Dr K H0 G kvs ds) : kvs.length = ds.length := by
  induction r with
  | nil => rfl
  | cons a b ih => rw [List.length_cons, List.length_cons, ih]
end
section
variable {X : Cx} {H0 : Hp} {e a b : Expr} {pos : Pos} {x : Str} {i : Nat}
noncomputable abbrev kk (a b : Int) : List Key := [.inl a, .inl b]
end
end L3
namespace L3
open PySem PySem.W PyProof.Rows
noncomputable def Ends (lt : Nat → Nat → Bool) (n : Nat) {α : Type} (R : α → Prop) : KasT α → Prop
  | .ret a => R a
  | .ask i j k => i < n ∧ j < n ∧ Ends lt n R (k (lt i j))
section
variable {lt : Nat → Nat → Bool} {n : Nat}
theorem Ends.bind {α β : Type} {R : β → Prop} {f : α → KasT β} : ∀ {t : KasT α}, Ends lt n (fun a => Ends lt n R (f a)) t → Ends lt n R (t.bind f)
  | .ret _, h => h
  | .ask _ _ k, h => ⟨h.1, h.2.1, Ends.bind (t := k _) h.2.2⟩
theorem Ends.mono {α : Type} {R R' : α → Prop} (hR : ∀ a, R a → R' a) : ∀ {t : KasT α}, Ends lt n R t → Ends lt n R' t
  | .ret a, h => hR a h
  | .ask _ _ k, h => ⟨h.1, h.2.1, Ends.mono hR (t := k _) h.2.2⟩
structure Ordr (lt : Nat → Nat → Bool) (n : Nat) : Prop where
  tr : ∀ i j k, lt i j = true → lt j k = true → lt i k = true
  as : ∀ i j, lt i j = true → lt j i = false
  co : ∀ i j, i < n → j < n → i ≠ j → lt i j = true ∨ lt j i = true
noncomputable abbrev gp (p : Array Nat) (i : Nat) : Nat := p.getD i 0
noncomputable def OkP (n : Nat) (p : Array Nat) : Prop := p.toList.Perm (List.range n)
theorem OkP.size {p : Array Nat} (h : OkP n p) : p.size = n := by have := h.length_eq; simpa using this
theorem gp_get {p : Array Nat} {i : Nat} (hi : i < p.size) : p[i]? = some (gp p i) := by
  simp [gp, Array.getD, hi]
theorem OkP.below {p : Array Nat} (h : OkP n p) {i : Nat} (hi : i < n) : gp p i < n := by
  have hs := h.size
  have e := gp_get (p := p) (i := i) (by omega)
  have : gp p i ∈ p.toList := by
    rw [Array.mem_toList_iff]
    exact Array.mem_of_getElem? e
  exact List.mem_range.mp (h.mem_iff.mp this)
theorem OkP.inj {p : Array Nat} (h : OkP n p) {i j : Nat} (hi : i < n) (hj : j < n) (e : gp p i = gp p j) : i = j := by
  have hs := h.size
  have nd : p.toList.Nodup := h.nodup_iff.mpr List.nodup_range
  have e1 := gp_get (p := p) (i := i) (by omega)
  have e2 := gp_get (p := p) (i := j) (by omega)
  rw [← Array.getElem?_toList] at e1 e2
  rw [e] at e1
  have hi' : i < p.toList.length := by simpa [hs] using hi
  exact (List.getElem?_inj hi' nd).mp (e1.trans e2.symm)
theorem OkP.perm {p q : Array Nat} (h : OkP n p) (e : q.Perm p) : OkP n q := (Array.perm_iff_toList_perm.mp e).trans h
noncomputable def SoP (lt : Nat → Nat → Bool) (p : Array Nat) (k : Nat) : Prop := ∀ i j, i < j → j < k → lt (gp p i) (gp p j) = true
variable (O : Ordr lt n)
include O
theorem co_at {p : Array Nat} (h : OkP n p) {i j : Nat} (hi : i < n) (hj : j < n) (ne : i ≠ j) (c : lt (gp p j) (gp p i) = false) : lt (gp p i) (gp p j) = true := by
  rcases O.co _ _ (h.below hi) (h.below hj) (fun e => ne (h.inj hi hj e)) with q | q
  · exact q
  · rw [q] at c; cases c
end
end L3
namespace L3
open PySem PySem.W PySem.Calls PyProof.Rows
noncomputable abbrev gallopP : Bool → Keyed → Array Keyed → Nat → Nat → Nat → StateT SortSt Sem (Option Nat) := sortPriv% PySem.Builtin.gallop
section tim
variable {prog : Program} {w : World} {A : Around} {E : Value → Shared → Prop} {s : Shared} {α β : Type} {st : SortSt}
noncomputable def WS (prog : Program) (w : World) (A : Around) (E : Value → Shared → Prop) (s : Shared) {α : Type} (m : StateT SortSt Sem α) (st : SortSt) (Q : α → SortSt → Prop) : Prop := kasC (model prog w) A E m (fun a st' s' => s' = s ∧ Q a st') st s
theorem WS.mono {m : StateT SortSt Sem α} {Q Q' : α → SortSt → Prop} (h : WS prog w A E s m st Q) (hq : ∀ a st', Q a st' → Q' a st') : WS prog w A E s m st Q' := wpAny_mono h (fun r s' h' => ⟨h'.1, hq _ _ h'.2⟩) fun _ _ e => e
theorem WS.bnd {m : StateT SortSt Sem α} {f : α → StateT SortSt Sem β} {Q : β → SortSt → Prop} (h : WS prog w A E s m st fun a st' => WS prog w A E s (f a) st' Q) : WS prog w A E s (m >>= f) st Q :=
  kasC_bind (wpAny_mono h (fun r s' h' => by
    obtain ⟨e, h'⟩ := h'
    subst e
    exact h') fun _ _ e => e)
theorem WS.ret {a : α} {Q : α → SortSt → Prop} (h : Q a st) : WS prog w A E s (pure a : StateT SortSt Sem α) st Q := kasC_pure ⟨rfl, h⟩
theorem WS.gt {Q : SortSt → SortSt → Prop} (h : Q st st) : WS prog w A E s (get : StateT SortSt Sem SortSt) st Q := kasC_get ⟨rfl, h⟩
theorem WS.mdf {f : SortSt → SortSt} {Q : PUnit → SortSt → Prop} (h : Q ⟨⟩ (f st)) : WS prog w A E s (modify f : StateT SortSt Sem PUnit) st Q := kasC_modify ⟨rfl, h⟩
theorem WS.sto {st' : SortSt} {Q : PUnit → SortSt → Prop} (h : Q ⟨⟩ st') : WS prog w A E s (set st' : StateT SortSt Sem PUnit) st Q := by
  unfold WS kasC
  rw [StateT.run_set]
  exact wpAny_pure ⟨rfl, h⟩
theorem WS.rl {x : String} {Q : Unit → SortSt → Prop} (h : Q () st) : WS prog w A E s (liftM (rule x) : StateT SortSt Sem Unit) st Q := kasC_lift (wpAny_rule ⟨rfl, h⟩)
theorem WS.loop {a b : Nat} {c : β} {f : Nat → β → StateT SortSt Sem (ForInStep β)} {Q : β → SortSt → Prop} (I : Nat → β → SortSt → Prop) (h0 : I (b - a) c st)
    (hs : ∀ k x c st, I (k + 1) c st → WS prog w A E s (f x c) st fun r st' => match r with | .done c' => Q c' st' | .yield c' => I k c' st') (hn : ∀ c st, I 0 c st → Q c st) : WS prog w A E s (forIn [a:b] c f) st Q := by
  refine kasC_range ?_
  have go : ∀ (k : Nat) (l : List Nat) (c : β) (st : SortSt), l.length = k → I k c st → WS prog w A E s (forIn l c f) st Q := by
    intro k
    induction k with
    | zero =>
      intro l c st hl hi
      cases l with
      | nil => exact kasC_nil ⟨rfl, hn c st hi⟩
      | cons _ _ => simp at hl
    | succ k ih =>
      intro l c st hl hi
      cases l with
      | nil => simp at hl
      | cons x l =>
        refine kasC_cons (wpAny_mono (hs k x c st hi) (fun r s' h' => ?_) fun _ _ e => e)
        obtain ⟨r, st'⟩ := r
        obtain ⟨e, h'⟩ := h'
        cases r with
        | done c' => exact ⟨e, h'⟩
        | yield c' =>
          have e : s' = s := e
          subst e
          exact ih l c' st' (by simpa using hl) h'
  exact go _ _ c st (List.length_range' ..) h0
theorem WS.ite {c : Prop} [Decidable c] {x y : StateT SortSt Sem α} {Q : α → SortSt → Prop} (h1 : WS prog w A E s x st Q) (h2 : WS prog w A E s y st Q) : WS prog w A E s (if c then x else y) st Q := by
  by_cases h : c
  · rw [if_pos h]; exact h1
  · rw [if_neg h]; exact h2
theorem WS.itec {c : Prop} [Decidable c] {x y : StateT SortSt Sem α} {Q : α → SortSt → Prop} (h1 : c → WS prog w A E s x st Q) (h2 : ¬ c → WS prog w A E s y st Q) : WS prog w A E s (if c then x else y) st Q := by
  by_cases h : c
  · rw [if_pos h]; exact h1 h
  · rw [if_neg h]; exact h2 h
theorem WS.elem {arr : Array Keyed} {i : Nat} {x : Keyed} {Q : Keyed → SortSt → Prop} (h : arr[i]? = some x) (q : Q x st) : WS prog w A E s (elem' arr i) st Q := by
  rw [elem'_eq, h]
  exact WS.ret q
variable {κ : SortKind} {it : Array Keyed} {lt : Nat → Nat → Bool} {n : Nat}
noncomputable def AskOk (prog : Program) (w : World) (A : Around) (s : Shared) (κ : SortKind) (it : Array Keyed) (lt : Nat → Nat → Bool) (n : Nat) : Prop := ∀ i j (C : Bool → Shared → Prop), i < n → j < n → C (lt i j) s → kas_cmp prog w A κ it i j C s
variable (K : AskOk prog w A s κ it lt n)
include K
theorem WS.ltq {i j : Nat} {Q : Option Bool → SortSt → Prop} (hk : kindOf st = κ) (hi : i < n) (hj : j < n) (q : Q (some (lt i j)) st) : WS prog w A E s (lt' (kas_item it i) (kas_item it j)) st Q := by
  rw [lt'_eq]
  refine WS.bnd (WS.gt ?_)
  rw [hk]
  refine kasC_bind (kasC_lift (wpAny_attempt (wpAny_mono (K i j (fun c s' => c = lt i j ∧ s' = s) hi hj ⟨rfl, rfl⟩) (fun c s' hc => ?_) fun _ _ hF => hF.elim)))
  obtain ⟨rfl, rfl⟩ := hc
  exact kasC_pure ⟨rfl, q⟩
omit K in
theorem map_at {p : Array Nat} {i : Nat} (h : i < p.size) : (p.map (kas_item it))[i]? = some (kas_item it (gp p i)) := by
  rw [Array.getElem?_map, gp_get h]; rfl
noncomputable def bey (lt : Nat → Nat → Bool) (left : Bool) (k x : Nat) : Bool := if left = true then lt x k else !(lt k x)
theorem WS.gallop {left : Bool} {k : Nat} {p : Array Nat} {base m hint : Nat} {Q : Option Nat → SortSt → Prop} (hk : kindOf st = κ) (hkn : k < n) (hp : ∀ i, i < m → gp p (base + i) < n) (hb : base + m ≤ p.size) (hh : hint < m)
    (mono : ∀ i j, i ≤ j → j < m → bey lt left k (gp p (base + j)) = true → bey lt left k (gp p (base + i)) = true)
    (q : ∀ h, h ≤ m → (∀ i, i < h → bey lt left k (gp p (base + i)) = true) → (∀ i, h ≤ i → i < m → bey lt left k (gp p (base + i)) = false) → Q (some h) st) :
    WS prog w A E s (gallopP left (kas_item it k) (p.map (kas_item it)) base m hint) st Q := by
  have ask : ∀ (i : Nat) (st : SortSt) (Q : Option Bool → SortSt → Prop), kindOf st = κ → i < m → Q (some (bey lt left k (gp p (base + i)))) st → WS prog w A E s (do
      let x ← elem' (p.map (kas_item it)) (base + i)
      if left = true then lt' x (kas_item it k) else do
        let r ← lt' (kas_item it k) x
        Pure.pure (r.map (!·))) st Q := fun i st Q hk hi q => by
    refine WS.bnd (WS.elem (map_at (by omega)) ?_)
    unfold bey at q
    cases left with
    | true => exact WS.ltq K hk (hp i hi) hkn q
    | false => exact WS.bnd (WS.ltq K hk hkn (hp i hi) (WS.ret q))
  have contra : ∀ i j, i ≤ j → j < m → bey lt left k (gp p (base + i)) = false → bey lt left k (gp p (base + j)) = false := fun i j hij hj h => by
    cases e : bey lt left k (gp p (base + j)) with
    | false => rfl
    | true => rw [mono i j hij hj e] at h; cases h
  refine WS.bnd ?_
  refine ask hint st _ hk hh ?_
  dsimp only
  cases hb0 : bey lt left k (gp p (base + hint)) with
  | true =>
    rw [if_pos rfl]
    refine WS.bnd (WS.mono (WS.loop (Q := fun (c : Option (Option Nat) × Nat × Nat) st' => c.1 = none ∧ st = st' ∧ c.2.1 < c.2.2 ∧ c.2.1 < m - hint ∧ bey lt left k (gp p (base + (hint + c.2.1))) = true ∧ (m - hint ≤ c.2.2 ∨ hint + c.2.2 < m ∧ bey lt left k (gp p (base + (hint + c.2.2))) = false))
      (fun j (c : Option (Option Nat) × Nat × Nat) st' => c.1 = none ∧ st = st' ∧ c.2.1 < c.2.2 ∧ c.2.1 < m - hint ∧ bey lt left k (gp p (base + (hint + c.2.1))) = true ∧ m ≤ c.2.2 + j) ⟨rfl, rfl, by dsimp only; omega, by dsimp only; omega, hb0, by dsimp only; omega⟩ (fun j x c st' hI => ?_) fun c st' hI => ?_) fun c st' hQ => ?_)
    · obtain ⟨r, lastofs, ofs⟩ := c
      obtain ⟨h1, rfl, h2, h3, h4, h5⟩ := hI
      dsimp only at h1 h2 h3 h4 h5 ⊢
      subst h1
      by_cases hc : ofs ≥ m - hint
      · rw [if_pos hc]
        exact WS.ret ⟨rfl, rfl, h2, h3, h4, .inl hc⟩
      · rw [if_neg hc]
        refine WS.bnd (ask (hint + ofs) st _ hk (by omega) ?_)
        dsimp only
        cases hb' : bey lt left k (gp p (base + (hint + ofs))) with
        | true =>
          rw [if_neg (by decide)]
          exact WS.ret ⟨rfl, rfl, by dsimp only; omega, by dsimp only; omega, hb', by dsimp only; omega⟩
        | false =>
          rw [if_pos (by decide)]
          exact WS.ret ⟨rfl, rfl, h2, h3, h4, .inr ⟨by dsimp only; omega, hb'⟩⟩
    · obtain ⟨h1, h2, h3, h4, h5, h6⟩ := hI
      exact ⟨h1, h2, h3, h4, h5, .inl (by omega)⟩
    obtain ⟨r, lastofs, ofs⟩ := c
    obtain ⟨h1, rfl, h2, h3, h4, h5⟩ := hQ
    dsimp only at h1 h2 h3 h4 h5 ⊢
    subst h1
    dsimp only
    have hlo : hint + lastofs + 1 ≤ hint + min ofs (m - hint) := by omega
    have hhi : hint + min ofs (m - hint) ≤ m := by omega
    have hlow : ∀ i, i < hint + lastofs + 1 → bey lt left k (gp p (base + i)) = true := fun i hi => mono i (hint + lastofs) (by omega) (by omega) h4
    have hupp : ∀ i, hint + min ofs (m - hint) ≤ i → i < m → bey lt left k (gp p (base + i)) = false := fun i hi him => by
      rcases h5 with h5 | ⟨h5, h6⟩
      · omega
      · exact contra (hint + ofs) i (by omega) him h6
    refine WS.bnd (WS.loop (fun j (c : Option (Option Nat) × Nat × Nat) st' => c.1 = none ∧ st = st' ∧ c.2.1 ≤ c.2.2 ∧ c.2.2 ≤ m ∧ c.2.2 ≤ c.2.1 + j ∧ (∀ i, i < c.2.1 → bey lt left k (gp p (base + i)) = true) ∧ ∀ i, c.2.2 ≤ i → i < m → bey lt left k (gp p (base + i)) = false) ?h0 (fun j x c st' hI => ?hs) fun c st' hI => ?hn)
    case h0 => exact ⟨rfl, rfl, hlo, hhi, by dsimp only; omega, hlow, hupp⟩
    case hn =>
      obtain ⟨r, lo, hi⟩ := c
      obtain ⟨h1, rfl, h2, h3, h4, h5, h6⟩ := hI
      dsimp only at h1 h2 h3 h4 h5 h6 ⊢
      subst h1
      exact WS.ret (q hi h3 (fun i hi => h5 i (by omega)) h6)
    case hs =>
      obtain ⟨r, lo, hi⟩ := c
      obtain ⟨h1, rfl, h2, h3, h4, h5, h6⟩ := hI
      dsimp only at h1 h2 h3 h4 h5 h6 ⊢
      subst h1
      by_cases hc : lo ≥ hi
      · rw [if_pos hc]
        exact WS.ret (WS.ret (q hi h3 (fun i hi => h5 i (by omega)) h6))
      · rw [if_neg hc]
        refine WS.bnd (ask (lo + (hi - lo) / 2) st _ hk (by omega) ?_)
        dsimp only
        cases hb' : bey lt left k (gp p (base + (lo + (hi - lo) / 2))) with
        | true =>
          refine WS.ret ⟨rfl, rfl, ?_, h3, ?_, fun i hi' => ?_, h6⟩
          · dsimp only; omega
          · dsimp only; omega
          · have hi' : i < lo + (hi - lo) / 2 + 1 := hi'
            exact mono i _ (by omega) (by omega) hb'
        | false =>
          refine WS.ret ⟨rfl, rfl, ?_, ?_, ?_, h5, fun i hi' him => ?_⟩
          · dsimp only; omega
          · dsimp only; omega
          · dsimp only; omega
          · have hi' : lo + (hi - lo) / 2 ≤ i := hi'
            exact contra _ i hi' him hb'
  | false =>
    rw [if_neg (by decide)]
    refine WS.bnd (WS.mono (WS.loop (Q := fun (c : Option (Option Nat) × Nat × Nat) st' => c.1 = none ∧ st = st' ∧ c.2.1 < c.2.2 ∧ c.2.1 < hint + 1 ∧ bey lt left k (gp p (base + (hint - c.2.1))) = false ∧ (hint + 1 ≤ c.2.2 ∨ c.2.2 ≤ hint ∧ bey lt left k (gp p (base + (hint - c.2.2))) = true))
      (fun j (c : Option (Option Nat) × Nat × Nat) st' => c.1 = none ∧ st = st' ∧ c.2.1 < c.2.2 ∧ c.2.1 < hint + 1 ∧ bey lt left k (gp p (base + (hint - c.2.1))) = false ∧ hint + 1 ≤ c.2.2 + j) ⟨rfl, rfl, by dsimp only; omega, by dsimp only; omega, hb0, by dsimp only; omega⟩ (fun j x c st' hI => ?_) fun c st' hI => ?_) fun c st' hQ => ?_)
    · obtain ⟨r, lastofs, ofs⟩ := c
      obtain ⟨h1, rfl, h2, h3, h4, h5⟩ := hI
      dsimp only at h1 h2 h3 h4 h5 ⊢
      subst h1
      by_cases hc : ofs ≥ hint + 1
      · rw [if_pos hc]
        exact WS.ret ⟨rfl, rfl, h2, h3, h4, .inl hc⟩
      · rw [if_neg hc]
        refine WS.bnd (ask (hint - ofs) st _ hk (by omega) ?_)
        dsimp only
        cases hb' : bey lt left k (gp p (base + (hint - ofs))) with
        | true =>
          rw [if_pos rfl]
          exact WS.ret ⟨rfl, rfl, h2, h3, h4, .inr ⟨by dsimp only; omega, hb'⟩⟩
        | false =>
          rw [if_neg (by decide)]
          exact WS.ret ⟨rfl, rfl, by dsimp only; omega, by dsimp only; omega, hb', by dsimp only; omega⟩
    · obtain ⟨h1, h2, h3, h4, h5, h6⟩ := hI
      exact ⟨h1, h2, h3, h4, h5, .inl (by omega)⟩
    obtain ⟨r, lastofs, ofs⟩ := c
    obtain ⟨h1, rfl, h2, h3, h4, h5⟩ := hQ
    dsimp only at h1 h2 h3 h4 h5 ⊢
    subst h1
    dsimp only
    have hlo : hint + 1 - min ofs (hint + 1) ≤ hint - lastofs := by omega
    have hhi : hint - lastofs ≤ m := by omega
    have hlow : ∀ i, i < hint + 1 - min ofs (hint + 1) → bey lt left k (gp p (base + i)) = true := fun i hi => by
      rcases h5 with h5 | ⟨h5, h6⟩
      · omega
      · exact mono i (hint - ofs) (by omega) (by omega) h6
    have hupp : ∀ i, hint - lastofs ≤ i → i < m → bey lt left k (gp p (base + i)) = false := fun i hi him => contra (hint - lastofs) i hi him h4
    refine WS.bnd (WS.loop (fun j (c : Option (Option Nat) × Nat × Nat) st' => c.1 = none ∧ st = st' ∧ c.2.1 ≤ c.2.2 ∧ c.2.2 ≤ m ∧ c.2.2 ≤ c.2.1 + j ∧ (∀ i, i < c.2.1 → bey lt left k (gp p (base + i)) = true) ∧ ∀ i, c.2.2 ≤ i → i < m → bey lt left k (gp p (base + i)) = false) ?h0 (fun j x c st' hI => ?hs) fun c st' hI => ?hn)
    case h0 => exact ⟨rfl, rfl, hlo, hhi, by dsimp only; omega, hlow, hupp⟩
    case hn =>
      obtain ⟨r, lo, hi⟩ := c
      obtain ⟨h1, rfl, h2, h3, h4, h5, h6⟩ := hI
      dsimp only at h1 h2 h3 h4 h5 h6 ⊢
      subst h1
      exact WS.ret (q hi h3 (fun i hi => h5 i (by omega)) h6)
    case hs =>
      obtain ⟨r, lo, hi⟩ := c
      obtain ⟨h1, rfl, h2, h3, h4, h5, h6⟩ := hI
      dsimp only at h1 h2 h3 h4 h5 h6 ⊢
      subst h1
      by_cases hc : lo ≥ hi
      · rw [if_pos hc]
        exact WS.ret (WS.ret (q hi h3 (fun i hi => h5 i (by omega)) h6))
      · rw [if_neg hc]
        refine WS.bnd (ask (lo + (hi - lo) / 2) st _ hk (by omega) ?_)
        dsimp only
        cases hb' : bey lt left k (gp p (base + (lo + (hi - lo) / 2))) with
        | true =>
          refine WS.ret ⟨rfl, rfl, ?_, h3, ?_, fun i hi' => ?_, h6⟩
          · dsimp only; omega
          · dsimp only; omega
          · have hi' : i < lo + (hi - lo) / 2 + 1 := hi'
            exact mono i _ (by omega) (by omega) hb'
        | false =>
          refine WS.ret ⟨rfl, rfl, ?_, ?_, ?_, h5, fun i hi' him => ?_⟩
          · dsimp only; omega
          · dsimp only; omega
          · dsimp only; omega
          · have hi' : lo + (hi - lo) / 2 ≤ i := hi'
            exact contra _ i hi' him hb'
end tim
end L3
namespace L3
open PySem PySem.W PySem.Calls PyProof.Rows
noncomputable def mg (lt : Nat → Nat → Bool) : List Nat → List Nat → List Nat
  | [], ys => ys
  | x :: xs, [] => x :: xs
  | x :: xs, y :: ys => if lt y x = true then y :: mg lt (x :: xs) ys else x :: mg lt xs (y :: ys)
termination_by xs ys => xs.length + ys.length
section
variable {lt : Nat → Nat → Bool}
theorem mg_nil (ys : List Nat) : mg lt [] ys = ys := by rw [mg]
theorem mg_nilr (xs : List Nat) : mg lt xs [] = xs := by cases xs <;> rw [mg]
theorem mg_cc (x : Nat) (xs : List Nat) (y : Nat) (ys : List Nat) : mg lt (x :: xs) (y :: ys) = if lt y x = true then y :: mg lt (x :: xs) ys else x :: mg lt xs (y :: ys) := by rw [mg]
theorem mg_perm : ∀ xs ys : List Nat, (mg lt xs ys).Perm (xs ++ ys)
  | [], ys => by rw [mg_nil]; exact .refl _
  | x :: xs, [] => by rw [mg_nilr, List.append_nil]
  | x :: xs, y :: ys => by
    rw [mg_cc]
    split
    · exact ((mg_perm (x :: xs) ys).cons y).trans List.perm_middle.symm
    · exact (mg_perm xs (y :: ys)).cons x
termination_by xs ys => xs.length + ys.length
theorem mg_last_a {z : Nat} : ∀ (xs ys : List Nat), (∀ u ∈ ys, lt u z = true) → mg lt (xs ++ [z]) ys = mg lt xs ys ++ [z]
  | [], [], _ => by rw [List.nil_append, mg_nilr, mg_nil]; rfl
  | [], y :: ys, h => by
    rw [List.nil_append, mg_cc, if_pos (h y List.mem_cons_self), mg_nil]
    have := mg_last_a (z := z) [] ys fun u hu => h u (List.mem_cons_of_mem _ hu)
    rw [List.nil_append, mg_nil] at this
    rw [this]; rfl
  | x :: xs, [], _ => by rw [mg_nilr, mg_nilr]
  | x :: xs, y :: ys, h => by
    rw [List.cons_append, mg_cc, mg_cc]
    split
    · have := mg_last_a (z := z) (x :: xs) ys fun u hu => h u (List.mem_cons_of_mem _ hu)
      rw [List.cons_append] at this
      rw [this]; rfl
    · rw [mg_last_a xs (y :: ys) h]; rfl
termination_by xs ys => xs.length + ys.length
theorem mg_last_b {z : Nat} : ∀ (xs ys : List Nat), (∀ u ∈ xs, lt z u = false) → mg lt xs (ys ++ [z]) = mg lt xs ys ++ [z]
  | [], ys, _ => by rw [mg_nil, mg_nil]
  | x :: xs, [], h => by
    rw [List.nil_append, mg_cc, if_neg (by rw [h x List.mem_cons_self]; decide), mg_nilr]
    have := mg_last_b (z := z) xs [] fun u hu => h u (List.mem_cons_of_mem _ hu)
    rw [List.nil_append, mg_nilr] at this
    rw [this]; rfl
  | x :: xs, y :: ys, h => by
    rw [List.cons_append, mg_cc, mg_cc]
    split
    · rw [mg_last_b (x :: xs) ys h]; rfl
    · have := mg_last_b (z := z) xs (y :: ys) fun u hu => h u (List.mem_cons_of_mem _ hu)
      rw [List.cons_append] at this
      rw [this]; rfl
termination_by xs ys => xs.length + ys.length
noncomputable abbrev Up (lt : Nat → Nat → Bool) (l : List Nat) : Prop := l.Pairwise fun a b => lt a b = true
theorem mg_up {n : Nat} (O : Ordr lt n) : ∀ (xs ys : List Nat), (xs ++ ys).Nodup → (∀ u ∈ xs ++ ys, u < n) → Up lt xs → Up lt ys → Up lt (mg lt xs ys)
  | [], ys, _, _, _, h => by rw [mg_nil]; exact h
  | x :: xs, [], _, _, h, _ => by rw [mg_nilr]; exact h
  | x :: xs, y :: ys, nd, hn, hx, hy => by
    have hne : x ≠ y := fun e => by
      have := (List.nodup_append.mp nd).2.2 x List.mem_cons_self y List.mem_cons_self
      exact this e
    rw [mg_cc]
    by_cases c : lt y x = true
    · rw [if_pos c]
      have nd' : (x :: xs ++ ys).Nodup := nd.sublist (List.Sublist.append_left (List.sublist_cons_self _ _) _)
      refine List.pairwise_cons.mpr ⟨fun u hu => ?_, mg_up O (x :: xs) ys nd' (fun u hu => hn u (by simp only [List.mem_append, List.mem_cons] at hu ⊢; rcases hu with (z | z) | z <;> simp [z])) hx (List.pairwise_cons.mp hy).2⟩
      have hu := (mg_perm (x :: xs) ys).mem_iff.mp hu
      simp only [List.mem_append, List.mem_cons] at hu
      rcases hu with (z | z) | z
      · rw [z]; exact c
      · exact O.tr _ _ _ c ((List.pairwise_cons.mp hx).1 u z)
      · exact (List.pairwise_cons.mp hy).1 u z
    · rw [if_neg c]
      have c' : lt x y = true := by
        rcases O.co x y (hn x (by simp)) (hn y (by simp)) hne with z | z
        · exact z
        · exact absurd z c
      have nd' : (xs ++ y :: ys).Nodup := (List.nodup_cons.mp nd).2
      refine List.pairwise_cons.mpr ⟨fun u hu => ?_, mg_up O xs (y :: ys) nd' (fun u hu => hn u (List.mem_cons_of_mem _ hu)) (List.pairwise_cons.mp hx).2 hy⟩
      have hu := (mg_perm xs (y :: ys)).mem_iff.mp hu
      simp only [List.mem_append, List.mem_cons] at hu
      rcases hu with z | z | z
      · exact (List.pairwise_cons.mp hx).1 u z
      · rw [z]; exact c'
      · exact O.tr _ _ _ c' ((List.pairwise_cons.mp hy).1 u z)
termination_by xs ys => xs.length + ys.length
theorem gp_list (p : Array Nat) (i : Nat) : gp p i = p.toList.getD i 0 := by simp [gp]
theorem drop_gp {p : Array Nat} {i : Nat} (h : i < p.size) : p.toList.drop i = gp p i :: p.toList.drop (i + 1) := by
  rw [gp_list, List.drop_eq_getElem_cons (by simpa using h), List.getD_eq_getElem?_getD, List.getElem?_eq_getElem (by simpa using h)]
  rfl
theorem take_gp {p : Array Nat} {i : Nat} (h : i < p.size) : p.toList.take (i + 1) = p.toList.take i ++ [gp p i] := by
  rw [gp_list, List.take_add_one, List.getD_eq_getElem?_getD, List.getElem?_eq_getElem (by simpa using h)]
  rfl
theorem mg_b {pa pb : Array Nat} {ia ib : Nat} (ha : ia < pa.size) (hb : ib < pb.size) (h : lt (gp pb ib) (gp pa ia) = true) : mg lt (pa.toList.drop ia) (pb.toList.drop ib) = gp pb ib :: mg lt (pa.toList.drop ia) (pb.toList.drop (ib + 1)) := by
  rw [drop_gp ha, drop_gp hb, mg_cc, if_pos h]
theorem mg_a {pa pb : Array Nat} {ia ib : Nat} (ha : ia < pa.size) (hb : ib < pb.size) (h : lt (gp pb ib) (gp pa ia) = false) : mg lt (pa.toList.drop ia) (pb.toList.drop ib) = gp pa ia :: mg lt (pa.toList.drop (ia + 1)) (pb.toList.drop ib) := by
  rw [drop_gp ha, drop_gp hb, mg_cc, if_neg (by rw [h]; decide)]
theorem mg_as {pa pb : Array Nat} {ib : Nat} (hb : ib < pb.size) : ∀ (k ia : Nat), ia + k ≤ pa.size → (∀ i, i < k → lt (gp pb ib) (gp pa (ia + i)) = false) → mg lt (pa.toList.drop ia) (pb.toList.drop ib) = (pa.extract ia (ia + k)).toList ++ mg lt (pa.toList.drop (ia + k)) (pb.toList.drop ib)
  | 0, ia, _, _ => by simp
  | k + 1, ia, hk, h => by
    rw [mg_a (ia := ia) (by omega) hb (h 0 (by omega)), mg_as hb k (ia + 1) (by omega) fun i hi => by have := h (i + 1) (by omega); rwa [show ia + (i + 1) = ia + 1 + i by omega] at this]
    have e : (pa.extract ia (ia + (k + 1))).toList = gp pa ia :: (pa.extract (ia + 1) (ia + 1 + k)).toList := by
      simp only [Array.toList_extract, List.extract_eq_drop_take]
      rw [drop_gp (p := pa) (i := ia) (by omega), show ia + (k + 1) - ia = k + 1 by omega, List.take_succ_cons, show ia + 1 + k - (ia + 1) = k by omega]
    rw [e, show ia + 1 + k = ia + (k + 1) by omega]
    rfl
theorem mg_bs {pa pb : Array Nat} {ia : Nat} (ha : ia < pa.size) : ∀ (k ib : Nat), ib + k ≤ pb.size → (∀ i, i < k → lt (gp pb (ib + i)) (gp pa ia) = true) → mg lt (pa.toList.drop ia) (pb.toList.drop ib) = (pb.extract ib (ib + k)).toList ++ mg lt (pa.toList.drop ia) (pb.toList.drop (ib + k))
  | 0, ib, _, _ => by simp
  | k + 1, ib, hk, h => by
    rw [mg_b (ib := ib) ha (by omega) (h 0 (by omega)), mg_bs ha k (ib + 1) (by omega) fun i hi => by have := h (i + 1) (by omega); rwa [show ib + (i + 1) = ib + 1 + i by omega] at this]
    have e : (pb.extract ib (ib + (k + 1))).toList = gp pb ib :: (pb.extract (ib + 1) (ib + 1 + k)).toList := by
      simp only [Array.toList_extract, List.extract_eq_drop_take]
      rw [drop_gp (p := pb) (i := ib) (by omega), show ib + (k + 1) - ib = k + 1 by omega, List.take_succ_cons, show ib + 1 + k - (ib + 1) = k by omega]
    rw [e, show ib + 1 + k = ib + (k + 1) by omega]
    rfl
end
end L3
namespace L3
open PySem PySem.W PySem.Calls PyProof.Rows
noncomputable abbrev mergeLoP : Array Keyed → Array Keyed → StateT SortSt Sem (Array Keyed) := sortPriv% PySem.Builtin.mergeLo
noncomputable abbrev mergeHiP : Array Keyed → Array Keyed → StateT SortSt Sem (Array Keyed) := sortPriv% PySem.Builtin.mergeHi
noncomputable def Stk (st st' : SortSt) : Prop := ∃ g, st' = SortSt.mk' (kindOf st) (arrOf st) (pendingOf st) g (failedOf st)
theorem Stk.refl (st : SortSt) : Stk st st := ⟨gallopOf st, rfl⟩
theorem Stk.kind {st st' : SortSt} (h : Stk st st') : kindOf st' = kindOf st := by obtain ⟨g, rfl⟩ := h; rfl
theorem Stk.trans {a b c : SortSt} (h : Stk a b) (h' : Stk b c) : Stk a c := by
  obtain ⟨g, rfl⟩ := h
  obtain ⟨g', rfl⟩ := h'
  exact ⟨g', rfl⟩
section
variable {it : Array Keyed} {lt : Nat → Nat → Bool}
noncomputable def Live (it : Array Keyed) (lt : Nat → Nat → Bool) (pa pb : Array Nat) (out : Array Keyed) (ia ib : Nat) : Prop := ∃ po : Array Nat, out = po.map (kas_item it) ∧ po.toList ++ mg lt (pa.toList.drop ia) (pb.toList.drop ib) = mg lt pa.toList pb.toList
noncomputable def FinM (it : Array Keyed) (lt : Nat → Nat → Bool) (pa pb : Array Nat) (r : Array Keyed) : Prop := ∃ po : Array Nat, r = po.map (kas_item it) ∧ po.toList = mg lt pa.toList pb.toList
variable {pa pb : Array Nat} {out : Array Keyed} {ia ib : Nat}
theorem Live.b (h : Live it lt pa pb out ia ib) (ha : ia < pa.size) (hb : ib < pb.size) (c : lt (gp pb ib) (gp pa ia) = true) : Live it lt pa pb (out.push (kas_item it (gp pb ib))) ia (ib + 1) := by
  obtain ⟨po, rfl, e⟩ := h
  refine ⟨po.push (gp pb ib), by rw [Array.map_push], ?_⟩
  rw [← e, mg_b ha hb c, Array.toList_push, List.append_assoc]; rfl
theorem Live.a (h : Live it lt pa pb out ia ib) (ha : ia < pa.size) (hb : ib < pb.size) (c : lt (gp pb ib) (gp pa ia) = false) : Live it lt pa pb (out.push (kas_item it (gp pa ia))) (ia + 1) ib := by
  obtain ⟨po, rfl, e⟩ := h
  refine ⟨po.push (gp pa ia), by rw [Array.map_push], ?_⟩
  rw [← e, mg_a ha hb c, Array.toList_push, List.append_assoc]; rfl
theorem Live.as (h : Live it lt pa pb out ia ib) {k : Nat} (ha : ia + k ≤ pa.size) (hb : ib < pb.size) (c : ∀ i, i < k → lt (gp pb ib) (gp pa (ia + i)) = false) : Live it lt pa pb (out ++ (pa.map (kas_item it)).extract ia (ia + k)) (ia + k) ib := by
  obtain ⟨po, rfl, e⟩ := h
  refine ⟨po ++ pa.extract ia (ia + k), by rw [Array.map_append, Array.map_extract], ?_⟩
  rw [← e, mg_as hb k ia ha c, Array.toList_append, List.append_assoc]
theorem Live.bs (h : Live it lt pa pb out ia ib) {k : Nat} (ha : ia < pa.size) (hb : ib + k ≤ pb.size) (c : ∀ i, i < k → lt (gp pb (ib + i)) (gp pa ia) = true) : Live it lt pa pb (out ++ (pb.map (kas_item it)).extract ib (ib + k)) ia (ib + k) := by
  obtain ⟨po, rfl, e⟩ := h
  refine ⟨po ++ pb.extract ib (ib + k), by rw [Array.map_append, Array.map_extract], ?_⟩
  rw [← e, mg_bs ha k ib hb c, Array.toList_append, List.append_assoc]
theorem ext_all (p : Array Nat) (i : Nat) : (p.extract i).toList = p.toList.drop i := by
  simp only [Array.toList_extract, List.extract_eq_drop_take]
  exact List.take_of_length_le (by simp)
theorem Live.done (h : Live it lt pa pb out ia ib) (e0 : ia = pa.size ∨ ib = pb.size) : FinM it lt pa pb (out ++ (pa.map (kas_item it)).extract ia pa.size ++ (pb.map (kas_item it)).extract ib pb.size) := by
  obtain ⟨po, rfl, e⟩ := h
  refine ⟨po ++ pa.extract ia ++ pb.extract ib, by rw [Array.map_append, Array.map_append, Array.map_extract, Array.map_extract], ?_⟩
  rw [← e, Array.toList_append, Array.toList_append, ext_all, ext_all, List.append_assoc]
  congr 1
  rcases e0 with rfl | rfl
  · rw [List.drop_eq_nil_of_le (by simp), mg_nil]; rfl
  · rw [List.drop_eq_nil_of_le (by simp : pb.toList.length ≤ pb.size), mg_nilr, List.append_nil]
theorem Live.last (h : Live it lt pa pb out ia ib) (e0 : ia + 1 = pa.size) (hb : ib ≤ pb.size) (c : ∀ j, j < pb.size → lt (gp pb j) (gp pa (pa.size - 1)) = true) : FinM it lt pa pb (out ++ (pb.map (kas_item it)).extract ib pb.size ++ (pa.map (kas_item it)).extract ia pa.size) := by
  obtain ⟨po, rfl, e⟩ := h
  refine ⟨po ++ pb.extract ib ++ pa.extract ia, by rw [Array.map_append, Array.map_append, Array.map_extract, Array.map_extract], ?_⟩
  rw [← e, Array.toList_append, Array.toList_append, ext_all, ext_all, List.append_assoc]
  congr 1
  rw [mg_bs (pa := pa) (pb := pb) (ia := ia) (by omega) (pb.size - ib) ib (by omega) fun i hi => by have := c (ib + i) (by omega); rwa [show pa.size - 1 = ia by omega] at this]
  rw [show ib + (pb.size - ib) = pb.size by omega, ext_all, List.drop_eq_nil_of_le (by simp : pb.toList.length ≤ pb.size), mg_nilr]
end
theorem Stk.gal {a b : SortSt} {g : Nat} (h : Stk a b) : Stk a (SortSt.mk' (kindOf b) (arrOf b) (pendingOf b) g (failedOf b)) := by obtain ⟨g', rfl⟩ := h; exact ⟨g, rfl⟩
theorem up_b {lt : Nat → Nat → Bool} {n : Nat} {pb : Array Nat} {k ib : Nat} (O : Ordr lt n) (ub : ∀ i j, i < j → j < pb.size → lt (gp pb i) (gp pb j) = true) {i j : Nat} (hij : i ≤ j) (hj : ib + j < pb.size) (h : bey lt true k (gp pb (ib + j)) = true) : bey lt true k (gp pb (ib + i)) = true := by
  unfold bey at h ⊢
  rw [if_pos rfl] at h ⊢
  by_cases e : i = j
  · rw [e]; exact h
  · exact O.tr _ _ _ (ub _ _ (by omega) hj) h
theorem up_a {lt : Nat → Nat → Bool} {n : Nat} {pa : Array Nat} {k ia : Nat} (O : Ordr lt n) (ua : ∀ i j, i < j → j < pa.size → lt (gp pa i) (gp pa j) = true) {i j : Nat} (hij : i ≤ j) (hj : ia + j < pa.size) (h : bey lt false k (gp pa (ia + j)) = true) : bey lt false k (gp pa (ia + i)) = true := by
  unfold bey at h ⊢
  rw [if_neg (by decide)] at h ⊢
  by_cases e : i = j
  · rw [e]; exact h
  · cases c : lt k (gp pa (ia + i)) with
    | false => rfl
    | true =>
      rw [O.tr _ _ _ c (ua _ _ (show ia + i < ia + j by omega) hj)] at h
      cases h
section tim
variable {prog : Program} {w : World} {A : Around} {E : Value → Shared → Prop} {s : Shared} {α β : Type} {st : SortSt} {κ : SortKind} {it : Array Keyed} {lt : Nat → Nat → Bool} {n : Nat}
variable (K : AskOk prog w A s κ it lt n) (O : Ordr lt n)
include K O
theorem WS.mergeLo {pa pb : Array Nat} {Q : Array Keyed → SortSt → Prop} (hk : kindOf st = κ) (ha : ∀ i, i < pa.size → gp pa i < n) (hb : ∀ i, i < pb.size → gp pb i < n) (ua : ∀ i j, i < j → j < pa.size → lt (gp pa i) (gp pa j) = true) (ub : ∀ i j, i < j → j < pb.size → lt (gp pb i) (gp pb j) = true)
    (h1 : 1 ≤ pa.size) (h2 : 1 ≤ pb.size) (h3 : lt (gp pb 0) (gp pa 0) = true) (h4 : ∀ j, j < pb.size → lt (gp pb j) (gp pa (pa.size - 1)) = true) (q : ∀ r st', Stk st st' → FinM it lt pa pb r → Q r st') :
    WS prog w A E s (mergeLoP (pa.map (kas_item it)) (pb.map (kas_item it))) st Q := by
  have sza : (pa.map (kas_item it)).size = pa.size := Array.size_map ..
  have szb : (pb.map (kas_item it)).size = pb.size := Array.size_map ..
  refine WS.bnd (WS.rl ?_)
  refine WS.bnd (WS.elem (map_at (by omega)) ?_)
  have L0 : Live it lt pa pb #[kas_item it (gp pb 0)] 0 1 := (show Live it lt pa pb #[] 0 0 from ⟨#[], by simp, by simp⟩).b (by omega) (by omega) h3
  dsimp only
  simp only [sza, szb]
  by_cases c1 : 1 = pb.size
  · rw [if_pos (by simp [← c1])]
    exact WS.ret (q _ _ (.refl _) (L0.done (.inr c1)))
  rw [if_neg (by simp; omega)]
  by_cases c2 : 0 + 1 = pa.size
  · rw [if_pos (by simp; omega)]
    exact WS.ret (q _ _ (.refl _) (L0.last (by omega) (by omega) h4))
  rw [if_neg (by simp; omega)]
  refine WS.bnd (WS.gt ?_)
  try dsimp only
  refine WS.bnd (WS.mono (WS.loop (Q := fun (c : Option (Array Keyed) × Array Keyed × Nat × Nat × Nat) st' => ∃ r, c.1 = some r ∧ Stk st st' ∧ FinM it lt pa pb r)
    (fun j (c : Option (Array Keyed) × Array Keyed × Nat × Nat × Nat) st' => c.1 = none ∧ Stk st st' ∧ Live it lt pa pb c.2.1 c.2.2.1 c.2.2.2.1 ∧ c.2.2.1 + 1 < pa.size ∧ c.2.2.2.1 < pb.size ∧ (pa.size - c.2.2.1) + (pb.size - c.2.2.2.1) ≤ j) ⟨rfl, .refl _, L0, by dsimp only; omega, by dsimp only; omega, by dsimp only; omega⟩ (fun j x c st' hI => ?_) fun c st' hI => ?_) fun c st' hQ => ?_)
  case refine_2 =>
    obtain ⟨h0, S, L, la, lb, lm⟩ := hI
    omega
  case refine_3 =>
    obtain ⟨r, out, ia, ib, mgal⟩ := c
    obtain ⟨r', h0, S, F⟩ := hQ
    have h0 : r = some r' := h0
    subst h0
    exact WS.ret (q r' st' S F)
  obtain ⟨r0, out, ia, ib, mgal⟩ := c
  obtain ⟨h0, S, L, la, lb, lm⟩ := hI
  dsimp only at h0 L la lb lm ⊢
  subst h0
  refine WS.bnd (WS.mono (WS.loop (Q := fun (c : Option (Array Keyed) × Array Keyed × Nat × Nat × Nat × Nat) st2 => st' = st2 ∧ ((∃ r, c.1 = some r ∧ FinM it lt pa pb r) ∨ (c.1 = none ∧ Live it lt pa pb c.2.1 c.2.2.1 c.2.2.2.1 ∧ c.2.2.1 + 1 < pa.size ∧ c.2.2.2.1 < pb.size ∧ (pa.size - c.2.2.1) + (pb.size - c.2.2.2.1) < (pa.size - ia) + (pb.size - ib))))
    (fun i (c : Option (Array Keyed) × Array Keyed × Nat × Nat × Nat × Nat) st2 => st' = st2 ∧ c.1 = none ∧ Live it lt pa pb c.2.1 c.2.2.1 c.2.2.2.1 ∧ c.2.2.1 + 1 < pa.size ∧ c.2.2.2.1 < pb.size ∧ (pa.size - c.2.2.1) + (pb.size - c.2.2.2.1) ≤ (pa.size - ia) + (pb.size - ib) ∧ (i < pa.size + pb.size → (pa.size - c.2.2.1) + (pb.size - c.2.2.2.1) < (pa.size - ia) + (pb.size - ib))) ⟨rfl, rfl, L, la, lb, Nat.le_refl _, fun h => absurd h (by omega)⟩ (fun i x c st2 hI => ?_) fun c st2 hI => ?_) fun c st2 hQ => ?_)
  case refine_2 =>
    obtain ⟨e, h0, L, la, lb, lm1, lm2⟩ := hI
    exact ⟨e, .inr ⟨h0, L, la, lb, lm2 (by omega)⟩⟩
  case refine_1 =>
    obtain ⟨r0, out1, ia1, ib1, ac, bc⟩ := c
    obtain ⟨e, h0, L, la, lb, lm1, lm2⟩ := hI
    dsimp only at h0 L la lb lm1 lm2 ⊢
    subst e h0
    refine WS.bnd (WS.elem (map_at (by omega)) ?_)
    refine WS.bnd (WS.elem (map_at (by omega)) ?_)
    refine WS.bnd (WS.ltq K (S.kind.trans hk) (hb _ (by omega)) (ha _ (by omega)) ?_)
    dsimp only
    cases hc : lt (gp pb ib1) (gp pa ia1) with
    | true =>
      rw [if_pos rfl]
      refine WS.bnd (WS.elem (map_at (by omega)) ?_)
      have L1 := L.b (by omega) lb hc
      by_cases c4 : ib1 + 1 = pb.size
      · rw [if_pos (by simp; omega)]
        exact WS.ret ⟨rfl, .inl ⟨_, rfl, L1.done (.inr c4)⟩⟩
      rw [if_neg (by simp; omega)]
      refine WS.ite ?_ ?_
      · exact WS.ret ⟨rfl, .inr ⟨rfl, L1, la, by dsimp only; omega, by dsimp only; omega⟩⟩
      · exact WS.ret ⟨rfl, rfl, L1, la, by dsimp only; omega, by dsimp only; omega, fun _ => by dsimp only; omega⟩
    | false =>
      rw [if_neg (by decide)]
      refine WS.bnd (WS.elem (map_at (by omega)) ?_)
      have L1 := L.a (by omega) lb hc
      by_cases c4 : ia1 + 1 + 1 = pa.size
      · rw [if_pos (by simp; omega)]
        exact WS.ret ⟨rfl, .inl ⟨_, rfl, L1.last (by omega) (by omega) h4⟩⟩
      rw [if_neg (by simp; omega)]
      refine WS.ite ?_ ?_
      · exact WS.ret ⟨rfl, .inr ⟨rfl, L1, by dsimp only; omega, lb, by dsimp only; omega⟩⟩
      · exact WS.ret ⟨rfl, rfl, L1, by dsimp only; omega, lb, by dsimp only; omega, fun _ => by dsimp only; omega⟩
  obtain ⟨r1, out1, ia1, ib1, ac, bc⟩ := c
  obtain ⟨e, hQ⟩ := hQ
  subst e
  rcases hQ with ⟨r, h0, F⟩ | ⟨h0, L1, la1, lb1, lm1⟩
  · have h0 : r1 = some r := h0
    subst h0
    exact WS.ret ⟨r, rfl, S, F⟩
  dsimp only at h0 L1 la1 lb1 lm1 ⊢
  subst h0
  dsimp only
  refine WS.bnd (WS.rl ?_)
  refine WS.bnd (WS.mono (WS.loop (Q := fun (c : Option (Array Keyed) × Array Keyed × Nat × Nat × Nat × Nat × Nat) st3 => Stk st st3 ∧ ((∃ r, c.1 = some r ∧ FinM it lt pa pb r) ∨ (c.1 = none ∧ Live it lt pa pb c.2.1 c.2.2.1 c.2.2.2.1 ∧ c.2.2.1 + 1 < pa.size ∧ c.2.2.2.1 < pb.size ∧ (pa.size - c.2.2.1) + (pb.size - c.2.2.2.1) ≤ (pa.size - ia1) + (pb.size - ib1))))
    (fun i (c : Option (Array Keyed) × Array Keyed × Nat × Nat × Nat × Nat × Nat) st3 => Stk st st3 ∧ c.1 = none ∧ Live it lt pa pb c.2.1 c.2.2.1 c.2.2.2.1 ∧ c.2.2.1 + 1 < pa.size ∧ c.2.2.2.1 < pb.size ∧ (pa.size - c.2.2.1) + (pb.size - c.2.2.2.1) ≤ (pa.size - ia1) + (pb.size - ib1)) ⟨S, rfl, L1, la1, lb1, Nat.le_refl _⟩ (fun i x c st3 hI => ?_) fun c st3 hI => ⟨hI.1, .inr hI.2⟩) fun c st3 hQ => ?_)
  case refine_2 =>
    obtain ⟨r2, out2, ia2, ib2, mg2, ac2, bc2⟩ := c
    obtain ⟨S2, hQ⟩ := hQ
    rcases hQ with ⟨r, h0, F⟩ | ⟨h0, L2, la2, lb2, lm2⟩
    · have h0 : r2 = some r := h0
      subst h0
      exact WS.ret ⟨r, rfl, S2, F⟩
    dsimp only at h0 L2 la2 lb2 lm2 ⊢
    subst h0
    dsimp only
    refine WS.bnd (WS.mdf (WS.ret ?_))
    exact ⟨rfl, S2.gal, L2, la2, lb2, by dsimp only; omega⟩
  obtain ⟨r2, out, ia, ib, mg2, ac2, bc2⟩ := c
  obtain ⟨S2, h0, L, la, lb, lm2⟩ := hI
  dsimp only at h0 L la lb lm2 ⊢
  subst h0
  by_cases cg : mg2 > 1
  · rw [if_pos cg]
    refine WS.bnd (WS.mdf ?_)
    have S3 := S2.gal (g := mg2 - 1)
    refine WS.bnd (WS.elem (map_at (by omega)) ?_)
    refine WS.bnd (WS.gallop K (S3.kind.trans hk) (hb _ (by omega)) (fun i hi => ha _ (by omega)) (by omega) (by omega) (fun i j hij hj hbt => ?_) fun k1 hk1 g1 g2 => ?_)
    · exact up_a O ua hij (by omega) hbt
    dsimp only
    have hx1 : ia + k1 < pa.size → lt (gp pb ib) (gp pa (ia + k1)) = true := fun z => by
      have := g2 k1 (Nat.le_refl _) (by omega)
      unfold bey at this
      simpa using this
    have g1' : ∀ i, i < k1 → lt (gp pb ib) (gp pa (ia + i)) = false := fun i hi => by
      have := g1 i hi
      unfold bey at this
      simpa using this
    by_cases c1 : k1 > 0
    · rw [if_pos c1]
      have L1 := L.as (k := k1) (by omega) lb g1'
      by_cases c2 : ia + k1 + 1 = pa.size
      · rw [if_pos (by simp; omega)]
        exact WS.ret ⟨S3, .inl ⟨_, rfl, L1.last (by omega) (by omega) h4⟩⟩
      rw [if_neg (by simp; omega)]
      by_cases c3 : ia + k1 = pa.size
      · rw [if_pos (by simp; omega)]
        exact WS.ret ⟨S3, .inl ⟨_, rfl, L1.done (.inl c3)⟩⟩
      rw [if_neg (by simp; omega)]
      refine WS.bnd (WS.elem (map_at (by omega)) ?_)
      have L2 := L1.b (by omega) (by omega) (hx1 (by omega))
      by_cases c4 : ib + 1 = pb.size
      · rw [if_pos (by simp; omega)]
        exact WS.ret ⟨S3, .inl ⟨_, rfl, L2.done (.inr c4)⟩⟩
      rw [if_neg (by simp; omega)]
      refine WS.bnd (WS.elem (map_at (by omega)) ?_)
      refine WS.bnd (WS.gallop K (S3.kind.trans hk) (ha _ (by omega)) (fun i hi => hb _ (by omega)) (by omega) (by omega) (fun i j hij hj hbt => ?_) fun k2 hk2 g1 g2 => ?_)
      · exact up_b O ub hij (by omega) hbt
      dsimp only
      have hx2 : ib + 1 + k2 < pb.size → lt (gp pb (ib + 1 + k2)) (gp pa (ia + k1)) = false := fun z => g2 k2 (Nat.le_refl _) (by omega)
      by_cases c6 : k2 > 0
      · rw [if_pos c6]
        have L3' := L2.bs (k := k2) (by omega) (by omega) g1
        by_cases c7 : ib + 1 + k2 = pb.size
        · rw [if_pos (by simp; omega)]
          exact WS.ret ⟨S3, .inl ⟨_, rfl, L3'.done (.inr c7)⟩⟩
        rw [if_neg (by simp; omega)]
        refine WS.bnd (WS.elem (map_at (by omega)) ?_)
        have L4 := L3'.a (by omega) (by omega) (hx2 (by omega))
        by_cases c5 : ia + k1 + 1 + 1 = pa.size
        · rw [if_pos (by simp; omega)]
          exact WS.ret ⟨S3, .inl ⟨_, rfl, L4.last (by omega) (by omega) h4⟩⟩
        rw [if_neg (by simp; omega)]
        refine WS.ite ?_ ?_
        · exact WS.ret ⟨S3, .inr ⟨rfl, L4, by dsimp only; omega, by dsimp only; omega, by dsimp only; omega⟩⟩
        · exact WS.ret ⟨S3, rfl, L4, by dsimp only; omega, by dsimp only; omega, by dsimp only; omega⟩
      · rw [if_neg c6]
        have c6 : k2 = 0 := by omega
        subst c6
        have hx2 : ib + 1 < pb.size → lt (gp pb (ib + 1)) (gp pa (ia + k1)) = false := hx2
        refine WS.bnd (WS.elem (map_at (by omega)) ?_)
        have L4 := L2.a (by omega) (by omega) (hx2 (by omega))
        by_cases c5 : ia + k1 + 1 + 1 = pa.size
        · rw [if_pos (by simp; omega)]
          exact WS.ret ⟨S3, .inl ⟨_, rfl, L4.last (by omega) (by omega) h4⟩⟩
        rw [if_neg (by simp; omega)]
        refine WS.ite ?_ ?_
        · exact WS.ret ⟨S3, .inr ⟨rfl, L4, by dsimp only; omega, by dsimp only; omega, by dsimp only; omega⟩⟩
        · exact WS.ret ⟨S3, rfl, L4, by dsimp only; omega, by dsimp only; omega, by dsimp only; omega⟩
    · rw [if_neg c1]
      have c1 : k1 = 0 := by omega
      subst c1
      have hx1 : ia < pa.size → lt (gp pb ib) (gp pa ia) = true := hx1
      refine WS.bnd (WS.elem (map_at (by omega)) ?_)
      have L2 := L.b (by omega) (by omega) (hx1 (by omega))
      by_cases c4 : ib + 1 = pb.size
      · rw [if_pos (by simp; omega)]
        exact WS.ret ⟨S3, .inl ⟨_, rfl, L2.done (.inr c4)⟩⟩
      rw [if_neg (by simp; omega)]
      refine WS.bnd (WS.elem (map_at (by omega)) ?_)
      refine WS.bnd (WS.gallop K (S3.kind.trans hk) (ha _ (by omega)) (fun i hi => hb _ (by omega)) (by omega) (by omega) (fun i j hij hj hbt => ?_) fun k2 hk2 g1 g2 => ?_)
      · exact up_b O ub hij (by omega) hbt
      dsimp only
      have hx2 : ib + 1 + k2 < pb.size → lt (gp pb (ib + 1 + k2)) (gp pa (ia)) = false := fun z => g2 k2 (Nat.le_refl _) (by omega)
      by_cases c6 : k2 > 0
      · rw [if_pos c6]
        have L3' := L2.bs (k := k2) (by omega) (by omega) g1
        by_cases c7 : ib + 1 + k2 = pb.size
        · rw [if_pos (by simp; omega)]
          exact WS.ret ⟨S3, .inl ⟨_, rfl, L3'.done (.inr c7)⟩⟩
        rw [if_neg (by simp; omega)]
        refine WS.bnd (WS.elem (map_at (by omega)) ?_)
        have L4 := L3'.a (by omega) (by omega) (hx2 (by omega))
        by_cases c5 : ia + 1 + 1 = pa.size
        · rw [if_pos (by simp; omega)]
          exact WS.ret ⟨S3, .inl ⟨_, rfl, L4.last (by omega) (by omega) h4⟩⟩
        rw [if_neg (by simp; omega)]
        refine WS.ite ?_ ?_
        · exact WS.ret ⟨S3, .inr ⟨rfl, L4, by dsimp only; omega, by dsimp only; omega, by dsimp only; omega⟩⟩
        · exact WS.ret ⟨S3, rfl, L4, by dsimp only; omega, by dsimp only; omega, by dsimp only; omega⟩
      · rw [if_neg c6]
        have c6 : k2 = 0 := by omega
        subst c6
        have hx2 : ib + 1 < pb.size → lt (gp pb (ib + 1)) (gp pa (ia)) = false := hx2
        refine WS.bnd (WS.elem (map_at (by omega)) ?_)
        have L4 := L2.a (by omega) (by omega) (hx2 (by omega))
        by_cases c5 : ia + 1 + 1 = pa.size
        · rw [if_pos (by simp; omega)]
          exact WS.ret ⟨S3, .inl ⟨_, rfl, L4.last (by omega) (by omega) h4⟩⟩
        rw [if_neg (by simp; omega)]
        refine WS.ite ?_ ?_
        · exact WS.ret ⟨S3, .inr ⟨rfl, L4, by dsimp only; omega, by dsimp only; omega, by dsimp only; omega⟩⟩
        · exact WS.ret ⟨S3, rfl, L4, by dsimp only; omega, by dsimp only; omega, by dsimp only; omega⟩
  · rw [if_neg cg]
    refine WS.bnd (WS.mdf ?_)
    have S3 := S2.gal (g := mg2)
    refine WS.bnd (WS.elem (map_at (by omega)) ?_)
    refine WS.bnd (WS.gallop K (S3.kind.trans hk) (hb _ (by omega)) (fun i hi => ha _ (by omega)) (by omega) (by omega) (fun i j hij hj hbt => ?_) fun k1 hk1 g1 g2 => ?_)
    · exact up_a O ua hij (by omega) hbt
    dsimp only
    have hx1 : ia + k1 < pa.size → lt (gp pb ib) (gp pa (ia + k1)) = true := fun z => by
      have := g2 k1 (Nat.le_refl _) (by omega)
      unfold bey at this
      simpa using this
    have g1' : ∀ i, i < k1 → lt (gp pb ib) (gp pa (ia + i)) = false := fun i hi => by
      have := g1 i hi
      unfold bey at this
      simpa using this
    by_cases c1 : k1 > 0
    · rw [if_pos c1]
      have L1 := L.as (k := k1) (by omega) lb g1'
      by_cases c2 : ia + k1 + 1 = pa.size
      · rw [if_pos (by simp; omega)]
        exact WS.ret ⟨S3, .inl ⟨_, rfl, L1.last (by omega) (by omega) h4⟩⟩
      rw [if_neg (by simp; omega)]
      by_cases c3 : ia + k1 = pa.size
      · rw [if_pos (by simp; omega)]
        exact WS.ret ⟨S3, .inl ⟨_, rfl, L1.done (.inl c3)⟩⟩
      rw [if_neg (by simp; omega)]
      refine WS.bnd (WS.elem (map_at (by omega)) ?_)
      have L2 := L1.b (by omega) (by omega) (hx1 (by omega))
      by_cases c4 : ib + 1 = pb.size
      · rw [if_pos (by simp; omega)]
        exact WS.ret ⟨S3, .inl ⟨_, rfl, L2.done (.inr c4)⟩⟩
      rw [if_neg (by simp; omega)]
      refine WS.bnd (WS.elem (map_at (by omega)) ?_)
      refine WS.bnd (WS.gallop K (S3.kind.trans hk) (ha _ (by omega)) (fun i hi => hb _ (by omega)) (by omega) (by omega) (fun i j hij hj hbt => ?_) fun k2 hk2 g1 g2 => ?_)
      · exact up_b O ub hij (by omega) hbt
      dsimp only
      have hx2 : ib + 1 + k2 < pb.size → lt (gp pb (ib + 1 + k2)) (gp pa (ia + k1)) = false := fun z => g2 k2 (Nat.le_refl _) (by omega)
      by_cases c6 : k2 > 0
      · rw [if_pos c6]
        have L3' := L2.bs (k := k2) (by omega) (by omega) g1
        by_cases c7 : ib + 1 + k2 = pb.size
        · rw [if_pos (by simp; omega)]
          exact WS.ret ⟨S3, .inl ⟨_, rfl, L3'.done (.inr c7)⟩⟩
        rw [if_neg (by simp; omega)]
        refine WS.bnd (WS.elem (map_at (by omega)) ?_)
        have L4 := L3'.a (by omega) (by omega) (hx2 (by omega))
        by_cases c5 : ia + k1 + 1 + 1 = pa.size
        · rw [if_pos (by simp; omega)]
          exact WS.ret ⟨S3, .inl ⟨_, rfl, L4.last (by omega) (by omega) h4⟩⟩
        rw [if_neg (by simp; omega)]
        refine WS.ite ?_ ?_
        · exact WS.ret ⟨S3, .inr ⟨rfl, L4, by dsimp only; omega, by dsimp only; omega, by dsimp only; omega⟩⟩
        · exact WS.ret ⟨S3, rfl, L4, by dsimp only; omega, by dsimp only; omega, by dsimp only; omega⟩
      · rw [if_neg c6]
        have c6 : k2 = 0 := by omega
        subst c6
        have hx2 : ib + 1 < pb.size → lt (gp pb (ib + 1)) (gp pa (ia + k1)) = false := hx2
        refine WS.bnd (WS.elem (map_at (by omega)) ?_)
        have L4 := L2.a (by omega) (by omega) (hx2 (by omega))
        by_cases c5 : ia + k1 + 1 + 1 = pa.size
        · rw [if_pos (by simp; omega)]
          exact WS.ret ⟨S3, .inl ⟨_, rfl, L4.last (by omega) (by omega) h4⟩⟩
        rw [if_neg (by simp; omega)]
        refine WS.ite ?_ ?_
        · exact WS.ret ⟨S3, .inr ⟨rfl, L4, by dsimp only; omega, by dsimp only; omega, by dsimp only; omega⟩⟩
        · exact WS.ret ⟨S3, rfl, L4, by dsimp only; omega, by dsimp only; omega, by dsimp only; omega⟩
    · rw [if_neg c1]
      have c1 : k1 = 0 := by omega
      subst c1
      have hx1 : ia < pa.size → lt (gp pb ib) (gp pa ia) = true := hx1
      refine WS.bnd (WS.elem (map_at (by omega)) ?_)
      have L2 := L.b (by omega) (by omega) (hx1 (by omega))
      by_cases c4 : ib + 1 = pb.size
      · rw [if_pos (by simp; omega)]
        exact WS.ret ⟨S3, .inl ⟨_, rfl, L2.done (.inr c4)⟩⟩
      rw [if_neg (by simp; omega)]
      refine WS.bnd (WS.elem (map_at (by omega)) ?_)
      refine WS.bnd (WS.gallop K (S3.kind.trans hk) (ha _ (by omega)) (fun i hi => hb _ (by omega)) (by omega) (by omega) (fun i j hij hj hbt => ?_) fun k2 hk2 g1 g2 => ?_)
      · exact up_b O ub hij (by omega) hbt
      dsimp only
      have hx2 : ib + 1 + k2 < pb.size → lt (gp pb (ib + 1 + k2)) (gp pa (ia)) = false := fun z => g2 k2 (Nat.le_refl _) (by omega)
      by_cases c6 : k2 > 0
      · rw [if_pos c6]
        have L3' := L2.bs (k := k2) (by omega) (by omega) g1
        by_cases c7 : ib + 1 + k2 = pb.size
        · rw [if_pos (by simp; omega)]
          exact WS.ret ⟨S3, .inl ⟨_, rfl, L3'.done (.inr c7)⟩⟩
        rw [if_neg (by simp; omega)]
        refine WS.bnd (WS.elem (map_at (by omega)) ?_)
        have L4 := L3'.a (by omega) (by omega) (hx2 (by omega))
        by_cases c5 : ia + 1 + 1 = pa.size
        · rw [if_pos (by simp; omega)]
          exact WS.ret ⟨S3, .inl ⟨_, rfl, L4.last (by omega) (by omega) h4⟩⟩
        rw [if_neg (by simp; omega)]
        refine WS.ite ?_ ?_
        · exact WS.ret ⟨S3, .inr ⟨rfl, L4, by dsimp only; omega, by dsimp only; omega, by dsimp only; omega⟩⟩
        · exact WS.ret ⟨S3, rfl, L4, by dsimp only; omega, by dsimp only; omega, by dsimp only; omega⟩
      · rw [if_neg c6]
        have c6 : k2 = 0 := by omega
        subst c6
        have hx2 : ib + 1 < pb.size → lt (gp pb (ib + 1)) (gp pa (ia)) = false := hx2
        refine WS.bnd (WS.elem (map_at (by omega)) ?_)
        have L4 := L2.a (by omega) (by omega) (hx2 (by omega))
        by_cases c5 : ia + 1 + 1 = pa.size
        · rw [if_pos (by simp; omega)]
          exact WS.ret ⟨S3, .inl ⟨_, rfl, L4.last (by omega) (by omega) h4⟩⟩
        rw [if_neg (by simp; omega)]
        refine WS.ite ?_ ?_
        · exact WS.ret ⟨S3, .inr ⟨rfl, L4, by dsimp only; omega, by dsimp only; omega, by dsimp only; omega⟩⟩
        · exact WS.ret ⟨S3, rfl, L4, by dsimp only; omega, by dsimp only; omega, by dsimp only; omega⟩
end tim
end L3
namespace L3
open PySem PySem.W PySem.Calls PyProof.Rows
section
variable {it : Array Keyed} {lt : Nat → Nat → Bool}
noncomputable def LivH (it : Array Keyed) (lt : Nat → Nat → Bool) (pa pb : Array Nat) (out : Array Keyed) (na nb : Nat) : Prop := ∃ po : Array Nat, out = po.map (kas_item it) ∧ mg lt (pa.toList.take na) (pb.toList.take nb) ++ po.toList.reverse = mg lt pa.toList pb.toList
variable {pa pb : Array Nat} {out : Array Keyed} {na nb n : Nat}
theorem mem_take_gp {p : Array Nat} {m x : Nat} (h : x ∈ p.toList.take m) : ∃ i, i < m ∧ i < p.size ∧ x = gp p i := by
  obtain ⟨i, hi, e⟩ := List.getElem_of_mem h
  rw [List.length_take] at hi
  have h1 : i < p.size := by have := Nat.lt_of_lt_of_le hi (Nat.min_le_right _ _); simpa using this
  refine ⟨i, Nat.lt_of_lt_of_le hi (Nat.min_le_left _ _), h1, ?_⟩
  rw [← e, List.getElem_take, gp_list, List.getD_eq_getElem?_getD, List.getElem?_eq_getElem (by simpa using h1)]
  rfl
theorem LivH.a (O : Ordr lt n) (ub : ∀ i j, i < j → j < pb.size → lt (gp pb i) (gp pb j) = true) (h : LivH it lt pa pb out (na + 1) nb) (ha : na < pa.size) (hb : nb ≤ pb.size) (c : nb ≠ 0 → lt (gp pb (nb - 1)) (gp pa na) = true) : LivH it lt pa pb (out.push (kas_item it (gp pa na))) na nb := by
  obtain ⟨po, rfl, e⟩ := h
  refine ⟨po.push (gp pa na), by rw [Array.map_push], ?_⟩
  rw [← e, take_gp ha, mg_last_a, Array.toList_push, List.reverse_append, List.append_assoc]
  · rfl
  intro u hu
  obtain ⟨i, hi, hi2, rfl⟩ := mem_take_gp hu
  by_cases z : i = nb - 1
  · rw [z]; exact c (by omega)
  · exact O.tr _ _ _ (ub _ _ (by omega) (by omega)) (c (by omega))
theorem LivH.b (O : Ordr lt n) (ua : ∀ i j, i < j → j < pa.size → lt (gp pa i) (gp pa j) = true) (h : LivH it lt pa pb out na (nb + 1)) (ha : na ≤ pa.size) (hb : nb < pb.size) (c : na ≠ 0 → lt (gp pb nb) (gp pa (na - 1)) = false) : LivH it lt pa pb (out.push (kas_item it (gp pb nb))) na nb := by
  obtain ⟨po, rfl, e⟩ := h
  refine ⟨po.push (gp pb nb), by rw [Array.map_push], ?_⟩
  rw [← e, take_gp hb, mg_last_b, Array.toList_push, List.reverse_append, List.append_assoc]
  · rfl
  intro u hu
  obtain ⟨i, hi, hi2, rfl⟩ := mem_take_gp hu
  by_cases z : i = na - 1
  · rw [z]; exact c (by omega)
  · cases e : lt (gp pb nb) (gp pa i) with
    | false => rfl
    | true =>
      have := O.tr _ _ _ e (ua i (na - 1) (by omega) (by omega))
      rw [c (by omega)] at this; cases this
theorem ext_rev (p : Array Nat) {i m : Nat} (h1 : i < m) (h2 : m ≤ p.size) : (p.extract i m).reverse = #[gp p (m - 1)] ++ (p.extract i (m - 1)).reverse := by
  apply Array.ext'
  simp only [Array.toList_reverse, Array.toList_append, Array.toList_extract, List.extract_eq_drop_take]
  have e : (List.drop i p.toList).take (m - i) = (List.drop i p.toList).take (m - 1 - i) ++ [gp p (m - 1)] := by
    rw [show m - i = (m - 1 - i) + 1 by omega, List.take_add_one, List.getElem?_drop, show i + (m - 1 - i) = m - 1 by omega, gp_list, List.getD_eq_getElem?_getD, List.getElem?_eq_getElem (by simp; omega)]
    rfl
  rw [e, List.reverse_append]; rfl
theorem ext_none (p : Array Keyed) (i : Nat) : p.extract i i = #[] := by
  apply Array.ext'; simp
theorem LivH.as (O : Ordr lt n) (ub : ∀ i j, i < j → j < pb.size → lt (gp pb i) (gp pb j) = true) : ∀ (k : Nat) {out : Array Keyed} {na : Nat}, LivH it lt pa pb out (na + k) nb → na + k ≤ pa.size → nb ≤ pb.size → nb ≠ 0 → (∀ i, na ≤ i → i < na + k → lt (gp pb (nb - 1)) (gp pa i) = true) → LivH it lt pa pb (out ++ ((pa.map (kas_item it)).extract na (na + k)).reverse) na nb
  | 0, out, na, h, _, _, _, _ => by
    rw [Nat.add_zero, ext_none]
    simpa using h
  | k + 1, out, na, h, ha, hb, h0, c => by
    have h1 := LivH.a O ub (na := na + k) h (by omega) hb fun _ => c (na + k) (by omega) (by omega)
    have h2 := LivH.as O ub k h1 (by omega) hb h0 fun i h1 h2 => c i h1 (by omega)
    have e : ((pa.map (kas_item it)).extract na (na + (k + 1))).reverse = #[kas_item it (gp pa (na + k))] ++ ((pa.map (kas_item it)).extract na (na + k)).reverse := by
      have := congrArg (Array.map (kas_item it)) (ext_rev pa (i := na) (m := na + (k + 1)) (by omega) (by omega))
      rw [Array.map_append, Array.map_reverse, Array.map_reverse, Array.map_extract, Array.map_extract] at this
      simpa using this
    rw [e, ← Array.append_assoc]
    exact h2
theorem LivH.bs (O : Ordr lt n) (ua : ∀ i j, i < j → j < pa.size → lt (gp pa i) (gp pa j) = true) : ∀ (k : Nat) {out : Array Keyed} {nb : Nat}, LivH it lt pa pb out na (nb + k) → nb + k ≤ pb.size → na ≤ pa.size → na ≠ 0 → (∀ i, nb ≤ i → i < nb + k → lt (gp pb i) (gp pa (na - 1)) = false) → LivH it lt pa pb (out ++ ((pb.map (kas_item it)).extract nb (nb + k)).reverse) na nb
  | 0, out, nb, h, _, _, _, _ => by
    rw [Nat.add_zero, ext_none]
    simpa using h
  | k + 1, out, nb, h, hb, ha, h0, c => by
    have h1 := LivH.b O ua (nb := nb + k) h ha (by omega) fun _ => c (nb + k) (by omega) (by omega)
    have h2 := LivH.bs O ua k h1 (by omega) ha h0 fun i h1 h2 => c i h1 (by omega)
    have e : ((pb.map (kas_item it)).extract nb (nb + (k + 1))).reverse = #[kas_item it (gp pb (nb + k))] ++ ((pb.map (kas_item it)).extract nb (nb + k)).reverse := by
      have := congrArg (Array.map (kas_item it)) (ext_rev pb (i := nb) (m := nb + (k + 1)) (by omega) (by omega))
      rw [Array.map_append, Array.map_reverse, Array.map_reverse, Array.map_extract, Array.map_extract] at this
      simpa using this
    rw [e, ← Array.append_assoc]
    exact h2
theorem LivH.a1 (O : Ordr lt n) (ub : ∀ i j, i < j → j < pb.size → lt (gp pb i) (gp pb j) = true) (h : LivH it lt pa pb out na nb) (h0 : na ≠ 0) (ha : na ≤ pa.size) (hb : nb ≤ pb.size) (c : nb ≠ 0 → lt (gp pb (nb - 1)) (gp pa (na - 1)) = true) : LivH it lt pa pb (out.push (kas_item it (gp pa (na - 1)))) (na - 1) nb := by
  obtain ⟨m, rfl⟩ : ∃ m, na = m + 1 := ⟨na - 1, by omega⟩
  exact LivH.a O ub h (by omega) hb c
theorem LivH.b1 (O : Ordr lt n) (ua : ∀ i j, i < j → j < pa.size → lt (gp pa i) (gp pa j) = true) (h : LivH it lt pa pb out na nb) (h0 : nb ≠ 0) (ha : na ≤ pa.size) (hb : nb ≤ pb.size) (c : na ≠ 0 → lt (gp pb (nb - 1)) (gp pa (na - 1)) = false) : LivH it lt pa pb (out.push (kas_item it (gp pb (nb - 1)))) na (nb - 1) := by
  obtain ⟨m, rfl⟩ : ∃ m, nb = m + 1 := ⟨nb - 1, by omega⟩
  exact LivH.b O ua h ha (by omega) c
theorem LivH.as1 (O : Ordr lt n) (ub : ∀ i j, i < j → j < pb.size → lt (gp pb i) (gp pb j) = true) {at_ : Nat} (h : LivH it lt pa pb out na nb) (h0 : at_ ≤ na) (ha : na ≤ pa.size) (hb : nb ≤ pb.size) (h1 : nb ≠ 0) (c : ∀ i, at_ ≤ i → i < na → lt (gp pb (nb - 1)) (gp pa i) = true) : LivH it lt pa pb (out ++ ((pa.map (kas_item it)).extract at_ na).reverse) at_ nb := by
  obtain ⟨k, rfl⟩ : ∃ k, na = at_ + k := ⟨na - at_, by omega⟩
  exact LivH.as O ub k h ha hb h1 c
theorem LivH.bs1 (O : Ordr lt n) (ua : ∀ i j, i < j → j < pa.size → lt (gp pa i) (gp pa j) = true) {at_ : Nat} (h : LivH it lt pa pb out na nb) (h0 : at_ ≤ nb) (ha : na ≤ pa.size) (hb : nb ≤ pb.size) (h1 : na ≠ 0) (c : ∀ i, at_ ≤ i → i < nb → lt (gp pb i) (gp pa (na - 1)) = false) : LivH it lt pa pb (out ++ ((pb.map (kas_item it)).extract at_ nb).reverse) na at_ := by
  obtain ⟨k, rfl⟩ : ∃ k, nb = at_ + k := ⟨nb - at_, by omega⟩
  exact LivH.bs O ua k h hb ha h1 c
theorem ext_take (p : Array Nat) (m : Nat) : (p.extract 0 m).toList = p.toList.take m := by
  simp [Array.toList_extract, List.extract_eq_drop_take]
theorem LivH.done (h : LivH it lt pa pb out na nb) (e0 : na = 0 ∨ nb = 0) : FinM it lt pa pb ((pa.map (kas_item it)).extract 0 na ++ (pb.map (kas_item it)).extract 0 nb ++ out.reverse) := by
  obtain ⟨po, rfl, e⟩ := h
  refine ⟨pa.extract 0 na ++ pb.extract 0 nb ++ po.reverse, by rw [Array.map_append, Array.map_append, Array.map_extract, Array.map_extract, Array.map_reverse], ?_⟩
  rw [← e, Array.toList_append, Array.toList_append, ext_take, ext_take, Array.toList_reverse]
  congr 1
  rcases e0 with rfl | rfl
  · rw [List.take_zero, mg_nil]; rfl
  · rw [List.take_zero, mg_nilr, List.append_nil]
theorem LivH.first (O : Ordr lt n) (ua : ∀ i j, i < j → j < pa.size → lt (gp pa i) (gp pa j) = true) (h : LivH it lt pa pb out na nb) (e0 : nb = 1) (ha : na ≤ pa.size) (hb : 1 ≤ pb.size) (c : lt (gp pb 0) (gp pa 0) = true) : FinM it lt pa pb ((pb.map (kas_item it)).extract 0 nb ++ (pa.map (kas_item it)).extract 0 na ++ out.reverse) := by
  obtain ⟨po, rfl, e⟩ := h
  refine ⟨pb.extract 0 nb ++ pa.extract 0 na ++ po.reverse, by rw [Array.map_append, Array.map_append, Array.map_extract, Array.map_extract, Array.map_reverse], ?_⟩
  rw [← e, Array.toList_append, Array.toList_append, ext_take, ext_take, Array.toList_reverse]
  congr 1
  subst e0
  have e1 : pb.toList.take 1 = [gp pb 0] := by have := take_gp (p := pb) (i := 0) (by omega); simpa using this
  rw [e1]
  cases hx : pa.toList.take na with
  | nil => rw [mg_nil]; rfl
  | cons a r =>
    have : a = gp pa 0 := by
      have h1 : na ≠ 0 := fun z => by rw [z, List.take_zero] at hx; cases hx
      have h2 : (pa.toList.take na)[0]? = some a := by rw [hx]; rfl
      rw [List.getElem?_take_of_lt (by omega)] at h2
      rw [gp_list, List.getD_eq_getElem?_getD, h2]; rfl
    rw [mg_cc, this, if_pos c, mg_nilr]; rfl
end
section tim
variable {prog : Program} {w : World} {A : Around} {E : Value → Shared → Prop} {s : Shared} {α β : Type} {st : SortSt} {κ : SortKind} {it : Array Keyed} {lt : Nat → Nat → Bool} {n : Nat}
variable (K : AskOk prog w A s κ it lt n) (O : Ordr lt n)
include K O
theorem WS.mergeHi {pa pb : Array Nat} {Q : Array Keyed → SortSt → Prop} (hk : kindOf st = κ) (ha : ∀ i, i < pa.size → gp pa i < n) (hb : ∀ i, i < pb.size → gp pb i < n) (ua : ∀ i j, i < j → j < pa.size → lt (gp pa i) (gp pa j) = true) (ub : ∀ i j, i < j → j < pb.size → lt (gp pb i) (gp pb j) = true)
    (h1 : 1 ≤ pa.size) (h2 : 1 ≤ pb.size) (h3 : lt (gp pb 0) (gp pa 0) = true) (h4 : ∀ j, j < pb.size → lt (gp pb j) (gp pa (pa.size - 1)) = true) (q : ∀ r st', Stk st st' → FinM it lt pa pb r → Q r st') :
    WS prog w A E s (mergeHiP (pa.map (kas_item it)) (pb.map (kas_item it))) st Q := by
  have sza : (pa.map (kas_item it)).size = pa.size := Array.size_map ..
  have szb : (pb.map (kas_item it)).size = pb.size := Array.size_map ..
  refine WS.bnd (WS.rl ?_)
  refine WS.bnd (WS.elem (map_at (by rw [sza]; omega)) ?_)
  dsimp only
  simp only [sza, szb]
  have L0 : LivH it lt pa pb #[kas_item it (gp pa (pa.size - 1))] (pa.size - 1) pb.size := LivH.a O ub (out := #[]) (na := pa.size - 1) ⟨#[], by simp, by rw [show pa.size - 1 + 1 = pa.size by omega, List.take_of_length_le (by simp), List.take_of_length_le (by simp)]; simp⟩ (by omega) (Nat.le_refl _) fun _ => h4 _ (by omega)
  by_cases c1 : pa.size - 1 = 0
  · rw [if_pos (by simp; omega)]
    exact WS.ret (q _ _ (.refl _) (L0.done (.inl c1)))
  rw [if_neg (by simp; omega)]
  by_cases c2 : pb.size = 1
  · rw [if_pos (by simp; omega)]
    exact WS.ret (q _ _ (.refl _) (L0.first O ua c2 (by omega) (by omega) h3))
  rw [if_neg (by simp; omega)]
  refine WS.bnd (WS.gt ?_)
  try dsimp only
  refine WS.bnd (WS.mono (WS.loop (Q := fun (c : Option (Array Keyed) × Nat × Nat × Array Keyed × Nat) st' => ∃ r, c.1 = some r ∧ Stk st st' ∧ FinM it lt pa pb r)
    (fun j (c : Option (Array Keyed) × Nat × Nat × Array Keyed × Nat) st' => c.1 = none ∧ Stk st st' ∧ LivH it lt pa pb c.2.2.2.1 c.2.1 c.2.2.1 ∧ 1 ≤ c.2.1 ∧ c.2.1 ≤ pa.size ∧ 2 ≤ c.2.2.1 ∧ c.2.2.1 ≤ pb.size ∧ c.2.1 + c.2.2.1 ≤ j) ⟨rfl, .refl _, L0, by dsimp only; omega, by dsimp only; omega, by dsimp only; omega, by dsimp only; omega, by dsimp only; omega⟩ (fun j x c st' hI => ?_) fun c st' hI => ?_) fun c st' hQ => ?_)
  case refine_2 =>
    obtain ⟨h0, S, L, l1, l2, l3, l4, lm⟩ := hI
    omega
  case refine_3 =>
    obtain ⟨r, na, nb, out, mgal⟩ := c
    obtain ⟨r', h0, S, F⟩ := hQ
    have h0 : r = some r' := h0
    subst h0
    exact WS.ret (q r' st' S F)
  obtain ⟨r0, na, nb, out, mgal⟩ := c
  obtain ⟨h0, S, L, l1, l2, l3, l4, lm⟩ := hI
  dsimp only at h0 L l1 l2 l3 l4 lm ⊢
  subst h0
  refine WS.bnd (WS.mono (WS.loop (Q := fun (c : Option (Array Keyed) × Nat × Nat × Array Keyed × Nat × Nat) st2 => st' = st2 ∧ ((∃ r, c.1 = some r ∧ FinM it lt pa pb r) ∨ (c.1 = none ∧ LivH it lt pa pb c.2.2.2.1 c.2.1 c.2.2.1 ∧ 1 ≤ c.2.1 ∧ c.2.1 ≤ pa.size ∧ 2 ≤ c.2.2.1 ∧ c.2.2.1 ≤ pb.size ∧ c.2.1 + c.2.2.1 < na + nb)))
    (fun i (c : Option (Array Keyed) × Nat × Nat × Array Keyed × Nat × Nat) st2 => st' = st2 ∧ c.1 = none ∧ LivH it lt pa pb c.2.2.2.1 c.2.1 c.2.2.1 ∧ 1 ≤ c.2.1 ∧ c.2.1 ≤ pa.size ∧ 2 ≤ c.2.2.1 ∧ c.2.2.1 ≤ pb.size ∧ c.2.1 + c.2.2.1 ≤ na + nb ∧ (i < pa.size + pb.size → c.2.1 + c.2.2.1 < na + nb)) ⟨rfl, rfl, L, l1, l2, l3, l4, Nat.le_refl _, fun h => absurd h (by omega)⟩ (fun i x c st2 hI => ?_) fun c st2 hI => ?_) fun c st2 hQ => ?_)
  case refine_2 =>
    obtain ⟨e, h0, L, l1, l2, l3, l4, lm1, lm2⟩ := hI
    exact ⟨e, .inr ⟨h0, L, l1, l2, l3, l4, lm2 (by omega)⟩⟩
  case refine_1 =>
    obtain ⟨r0, na1, nb1, out1, ac, bc⟩ := c
    obtain ⟨e, h0, L, l1, l2, l3, l4, lm1, lm2⟩ := hI
    dsimp only at h0 L l1 l2 l3 l4 lm1 lm2 ⊢
    subst e h0
    refine WS.bnd (WS.elem (map_at (by omega)) ?_)
    refine WS.bnd (WS.elem (map_at (by omega)) ?_)
    refine WS.bnd (WS.ltq K (S.kind.trans hk) (hb _ (by omega)) (ha _ (by omega)) ?_)
    dsimp only
    cases hc : lt (gp pb (nb1 - 1)) (gp pa (na1 - 1)) with
    | true =>
      rw [if_pos rfl]
      refine WS.bnd (WS.elem (map_at (by omega)) ?_)
      have L1 := L.a1 O ub (by omega) (by omega) (by omega) fun _ => hc
      by_cases c4 : na1 - 1 = 0
      · rw [if_pos (by simp; omega)]
        exact WS.ret ⟨rfl, .inl ⟨_, rfl, L1.done (.inl c4)⟩⟩
      rw [if_neg (by simp; omega)]
      refine WS.ite ?_ ?_
      · exact WS.ret ⟨rfl, .inr ⟨rfl, L1, by dsimp only; omega, by dsimp only; omega, l3, l4, by dsimp only; omega⟩⟩
      · exact WS.ret ⟨rfl, rfl, L1, by dsimp only; omega, by dsimp only; omega, l3, l4, by dsimp only; omega, fun _ => by dsimp only; omega⟩
    | false =>
      rw [if_neg (by decide)]
      refine WS.bnd (WS.elem (map_at (by omega)) ?_)
      have L1 := L.b1 O ua (by omega) (by omega) (by omega) fun _ => hc
      by_cases c4 : nb1 - 1 = 1
      · rw [if_pos (by simp; omega)]
        exact WS.ret ⟨rfl, .inl ⟨_, rfl, L1.first O ua c4 (by omega) (by omega) h3⟩⟩
      rw [if_neg (by simp; omega)]
      refine WS.ite ?_ ?_
      · exact WS.ret ⟨rfl, .inr ⟨rfl, L1, l1, l2, by dsimp only; omega, by dsimp only; omega, by dsimp only; omega⟩⟩
      · exact WS.ret ⟨rfl, rfl, L1, l1, l2, by dsimp only; omega, by dsimp only; omega, by dsimp only; omega, fun _ => by dsimp only; omega⟩
  obtain ⟨r1, na1, nb1, out1, ac, bc⟩ := c
  obtain ⟨e, hQ⟩ := hQ
  subst e
  rcases hQ with ⟨r, h0, F⟩ | ⟨h0, L1, k1, k2, k3, k4, lm1⟩
  · have h0 : r1 = some r := h0
    subst h0
    exact WS.ret ⟨r, rfl, S, F⟩
  dsimp only at h0 L1 k1 k2 k3 k4 lm1 ⊢
  subst h0
  dsimp only
  refine WS.bnd (WS.rl ?_)
  refine WS.bnd (WS.mono (WS.loop (Q := fun (c : Option (Array Keyed) × Nat × Nat × Array Keyed × Nat × Nat × Nat) st3 => Stk st st3 ∧ ((∃ r, c.1 = some r ∧ FinM it lt pa pb r) ∨ (c.1 = none ∧ LivH it lt pa pb c.2.2.2.1 c.2.1 c.2.2.1 ∧ 1 ≤ c.2.1 ∧ c.2.1 ≤ pa.size ∧ 2 ≤ c.2.2.1 ∧ c.2.2.1 ≤ pb.size ∧ c.2.1 + c.2.2.1 ≤ na1 + nb1)))
    (fun i (c : Option (Array Keyed) × Nat × Nat × Array Keyed × Nat × Nat × Nat) st3 => Stk st st3 ∧ c.1 = none ∧ LivH it lt pa pb c.2.2.2.1 c.2.1 c.2.2.1 ∧ 1 ≤ c.2.1 ∧ c.2.1 ≤ pa.size ∧ 2 ≤ c.2.2.1 ∧ c.2.2.1 ≤ pb.size ∧ c.2.1 + c.2.2.1 ≤ na1 + nb1) ⟨S, rfl, L1, k1, k2, k3, k4, Nat.le_refl _⟩ (fun i x c st3 hI => ?_) fun c st3 hI => ⟨hI.1, .inr hI.2⟩) fun c st3 hQ => ?_)
  case refine_2 =>
    obtain ⟨r2, na2, nb2, out2, mg2, ac2, bc2⟩ := c
    obtain ⟨S2, hQ⟩ := hQ
    rcases hQ with ⟨r, h0, F⟩ | ⟨h0, L2, m1, m2, m3, m4, lm2⟩
    · have h0 : r2 = some r := h0
      subst h0
      exact WS.ret ⟨r, rfl, S2, F⟩
    dsimp only at h0 L2 m1 m2 m3 m4 lm2 ⊢
    subst h0
    dsimp only
    refine WS.bnd (WS.mdf (WS.ret ?_))
    exact ⟨rfl, S2.gal, L2, m1, m2, m3, m4, by dsimp only; omega⟩
  obtain ⟨r2, na, nb, out, mg2, ac2, bc2⟩ := c
  obtain ⟨S2, h0, L, l1, l2, l3, l4, lm2⟩ := hI
  dsimp only at h0 L l1 l2 l3 l4 lm2 ⊢
  subst h0
  by_cases cg : mg2 > 1
  · rw [if_pos cg]
    refine WS.bnd (WS.mdf ?_)
    have S3 := S2.gal (g := mg2 - 1)
    refine WS.bnd (WS.elem (map_at (by omega)) ?_)
    refine WS.bnd (WS.gallop K (S3.kind.trans hk) (hb _ (by omega)) (fun i hi => ha _ (by omega)) (by omega) (by omega) (fun i j hij hj hbt => ?_) fun at1 hk1 g1 g2 => ?_)
    · exact up_a O ua hij (by omega) hbt
    dsimp only
    have f1' : ∀ i, i < at1 → lt (gp pb (nb - 1)) (gp pa i) = false := fun i hi => by
      have := g1 i hi
      rw [Nat.zero_add] at this
      unfold bey at this
      simpa using this
    have f2' : ∀ i, at1 ≤ i → i < na → lt (gp pb (nb - 1)) (gp pa i) = true := fun i hi hi2 => by
      have := g2 i hi hi2
      rw [Nat.zero_add] at this
      unfold bey at this
      simpa using this
    by_cases c1 : na - at1 > 0
    · rw [if_pos c1]
      have L1 := L.as1 O ub (at_ := at1) (by omega) (by omega) (by omega) (by omega) f2'
      by_cases c3 : at1 = 0
      · rw [if_pos (by simp; omega)]
        exact WS.ret ⟨S3, .inl ⟨_, rfl, L1.done (.inl c3)⟩⟩
      rw [if_neg (by simp; omega)]
      have hx1 := f1' (at1 - 1) (by omega)
      refine WS.bnd (WS.elem (map_at (by omega)) ?_)
      have L2 := L1.b1 O ua (by omega) (by omega) (by omega) fun _ => hx1
      by_cases c4 : nb - 1 = 1
      · rw [if_pos (by simp; omega)]
        exact WS.ret ⟨S3, .inl ⟨_, rfl, L2.first O ua c4 (by omega) (by omega) h3⟩⟩
      rw [if_neg (by simp; omega)]
      refine WS.bnd (WS.elem (map_at (by omega)) ?_)
      refine WS.bnd (WS.gallop K (S3.kind.trans hk) (ha _ (by omega)) (fun i hi => hb _ (by omega)) (by omega) (by omega) (fun i j hij hj hbt => ?_) fun at2 hk2 g1 g2 => ?_)
      · exact up_b O ub hij (by omega) hbt
      dsimp only
      have g1' : ∀ i, i < at2 → lt (gp pb i) (gp pa (at1 - 1)) = true := fun i hi => by
        have := g1 i hi
        rw [Nat.zero_add] at this
        exact this
      have g2' : ∀ i, at2 ≤ i → i < nb - 1 → lt (gp pb i) (gp pa (at1 - 1)) = false := fun i hi hi2 => by
        have := g2 i hi hi2
        rw [Nat.zero_add] at this
        exact this
      by_cases c6 : nb - 1 - at2 > 0
      · rw [if_pos c6]
        have L3' := L2.bs1 O ua (at_ := at2) (by omega) (by omega) (by omega) (by omega) g2'
        by_cases c7 : at2 = 1
        · rw [if_pos (by simp; omega)]
          exact WS.ret ⟨S3, .inl ⟨_, rfl, L3'.first O ua c7 (by omega) (by omega) h3⟩⟩
        rw [if_neg (by simp; omega)]
        by_cases c8 : at2 = 0
        · rw [if_pos (by simp; omega)]
          exact WS.ret ⟨S3, .inl ⟨_, rfl, L3'.done (.inr c8)⟩⟩
        rw [if_neg (by simp; omega)]
        have hx2 := g1' (at2 - 1) (by omega)
        refine WS.bnd (WS.elem (map_at (by omega)) ?_)
        have L4 := L3'.a1 O ub (by omega) (by omega) (by omega) fun _ => hx2
        by_cases c5 : at1 - 1 = 0
        · rw [if_pos (by simp; omega)]
          exact WS.ret ⟨S3, .inl ⟨_, rfl, L4.done (.inl c5)⟩⟩
        rw [if_neg (by simp; omega)]
        refine WS.ite ?_ ?_
        · exact WS.ret ⟨S3, .inr ⟨rfl, L4, by dsimp only; omega, by dsimp only; omega, by dsimp only; omega, by dsimp only; omega, by dsimp only; omega⟩⟩
        · exact WS.ret ⟨S3, rfl, L4, by dsimp only; omega, by dsimp only; omega, by dsimp only; omega, by dsimp only; omega, by dsimp only; omega⟩
      · rw [if_neg c6]
        have hx2 := g1' (nb - 1 - 1) (by omega)
        refine WS.bnd (WS.elem (map_at (by omega)) ?_)
        have L4 := L2.a1 O ub (by omega) (by omega) (by omega) fun _ => hx2
        by_cases c5 : at1 - 1 = 0
        · rw [if_pos (by simp; omega)]
          exact WS.ret ⟨S3, .inl ⟨_, rfl, L4.done (.inl c5)⟩⟩
        rw [if_neg (by simp; omega)]
        refine WS.ite ?_ ?_
        · exact WS.ret ⟨S3, .inr ⟨rfl, L4, by dsimp only; omega, by dsimp only; omega, by dsimp only; omega, by dsimp only; omega, by dsimp only; omega⟩⟩
        · exact WS.ret ⟨S3, rfl, L4, by dsimp only; omega, by dsimp only; omega, by dsimp only; omega, by dsimp only; omega, by dsimp only; omega⟩
    · rw [if_neg c1]
      have hx1 := f1' (na - 1) (by omega)
      refine WS.bnd (WS.elem (map_at (by omega)) ?_)
      have L2 := L.b1 O ua (by omega) (by omega) (by omega) fun _ => hx1
      by_cases c4 : nb - 1 = 1
      · rw [if_pos (by simp; omega)]
        exact WS.ret ⟨S3, .inl ⟨_, rfl, L2.first O ua c4 (by omega) (by omega) h3⟩⟩
      rw [if_neg (by simp; omega)]
      refine WS.bnd (WS.elem (map_at (by omega)) ?_)
      refine WS.bnd (WS.gallop K (S3.kind.trans hk) (ha _ (by omega)) (fun i hi => hb _ (by omega)) (by omega) (by omega) (fun i j hij hj hbt => ?_) fun at2 hk2 g1 g2 => ?_)
      · exact up_b O ub hij (by omega) hbt
      dsimp only
      have g1' : ∀ i, i < at2 → lt (gp pb i) (gp pa (na - 1)) = true := fun i hi => by
        have := g1 i hi
        rw [Nat.zero_add] at this
        exact this
      have g2' : ∀ i, at2 ≤ i → i < nb - 1 → lt (gp pb i) (gp pa (na - 1)) = false := fun i hi hi2 => by
        have := g2 i hi hi2
        rw [Nat.zero_add] at this
        exact this
      by_cases c6 : nb - 1 - at2 > 0
      · rw [if_pos c6]
        have L3' := L2.bs1 O ua (at_ := at2) (by omega) (by omega) (by omega) (by omega) g2'
        by_cases c7 : at2 = 1
        · rw [if_pos (by simp; omega)]
          exact WS.ret ⟨S3, .inl ⟨_, rfl, L3'.first O ua c7 (by omega) (by omega) h3⟩⟩
        rw [if_neg (by simp; omega)]
        by_cases c8 : at2 = 0
        · rw [if_pos (by simp; omega)]
          exact WS.ret ⟨S3, .inl ⟨_, rfl, L3'.done (.inr c8)⟩⟩
        rw [if_neg (by simp; omega)]
        have hx2 := g1' (at2 - 1) (by omega)
        refine WS.bnd (WS.elem (map_at (by omega)) ?_)
        have L4 := L3'.a1 O ub (by omega) (by omega) (by omega) fun _ => hx2
        by_cases c5 : na - 1 = 0
        · rw [if_pos (by simp; omega)]
          exact WS.ret ⟨S3, .inl ⟨_, rfl, L4.done (.inl c5)⟩⟩
        rw [if_neg (by simp; omega)]
        refine WS.ite ?_ ?_
        · exact WS.ret ⟨S3, .inr ⟨rfl, L4, by dsimp only; omega, by dsimp only; omega, by dsimp only; omega, by dsimp only; omega, by dsimp only; omega⟩⟩
        · exact WS.ret ⟨S3, rfl, L4, by dsimp only; omega, by dsimp only; omega, by dsimp only; omega, by dsimp only; omega, by dsimp only; omega⟩
      · rw [if_neg c6]
        have hx2 := g1' (nb - 1 - 1) (by omega)
        refine WS.bnd (WS.elem (map_at (by omega)) ?_)
        have L4 := L2.a1 O ub (by omega) (by omega) (by omega) fun _ => hx2
        by_cases c5 : na - 1 = 0
        · rw [if_pos (by simp; omega)]
          exact WS.ret ⟨S3, .inl ⟨_, rfl, L4.done (.inl c5)⟩⟩
        rw [if_neg (by simp; omega)]
        refine WS.ite ?_ ?_
        · exact WS.ret ⟨S3, .inr ⟨rfl, L4, by dsimp only; omega, by dsimp only; omega, by dsimp only; omega, by dsimp only; omega, by dsimp only; omega⟩⟩
        · exact WS.ret ⟨S3, rfl, L4, by dsimp only; omega, by dsimp only; omega, by dsimp only; omega, by dsimp only; omega, by dsimp only; omega⟩
  · rw [if_neg cg]
    refine WS.bnd (WS.mdf ?_)
    have S3 := S2.gal (g := mg2)
    refine WS.bnd (WS.elem (map_at (by omega)) ?_)
    refine WS.bnd (WS.gallop K (S3.kind.trans hk) (hb _ (by omega)) (fun i hi => ha _ (by omega)) (by omega) (by omega) (fun i j hij hj hbt => ?_) fun at1 hk1 g1 g2 => ?_)
    · exact up_a O ua hij (by omega) hbt
    dsimp only
    have f1' : ∀ i, i < at1 → lt (gp pb (nb - 1)) (gp pa i) = false := fun i hi => by
      have := g1 i hi
      rw [Nat.zero_add] at this
      unfold bey at this
      simpa using this
    have f2' : ∀ i, at1 ≤ i → i < na → lt (gp pb (nb - 1)) (gp pa i) = true := fun i hi hi2 => by
      have := g2 i hi hi2
      rw [Nat.zero_add] at this
      unfold bey at this
      simpa using this
    by_cases c1 : na - at1 > 0
    · rw [if_pos c1]
      have L1 := L.as1 O ub (at_ := at1) (by omega) (by omega) (by omega) (by omega) f2'
      by_cases c3 : at1 = 0
      · rw [if_pos (by simp; omega)]
        exact WS.ret ⟨S3, .inl ⟨_, rfl, L1.done (.inl c3)⟩⟩
      rw [if_neg (by simp; omega)]
      have hx1 := f1' (at1 - 1) (by omega)
      refine WS.bnd (WS.elem (map_at (by omega)) ?_)
      have L2 := L1.b1 O ua (by omega) (by omega) (by omega) fun _ => hx1
      by_cases c4 : nb - 1 = 1
      · rw [if_pos (by simp; omega)]
        exact WS.ret ⟨S3, .inl ⟨_, rfl, L2.first O ua c4 (by omega) (by omega) h3⟩⟩
      rw [if_neg (by simp; omega)]
      refine WS.bnd (WS.elem (map_at (by omega)) ?_)
      refine WS.bnd (WS.gallop K (S3.kind.trans hk) (ha _ (by omega)) (fun i hi => hb _ (by omega)) (by omega) (by omega) (fun i j hij hj hbt => ?_) fun at2 hk2 g1 g2 => ?_)
      · exact up_b O ub hij (by omega) hbt
      dsimp only
      have g1' : ∀ i, i < at2 → lt (gp pb i) (gp pa (at1 - 1)) = true := fun i hi => by
        have := g1 i hi
        rw [Nat.zero_add] at this
        exact this
      have g2' : ∀ i, at2 ≤ i → i < nb - 1 → lt (gp pb i) (gp pa (at1 - 1)) = false := fun i hi hi2 => by
        have := g2 i hi hi2
        rw [Nat.zero_add] at this
        exact this
      by_cases c6 : nb - 1 - at2 > 0
      · rw [if_pos c6]
        have L3' := L2.bs1 O ua (at_ := at2) (by omega) (by omega) (by omega) (by omega) g2'
        by_cases c7 : at2 = 1
        · rw [if_pos (by simp; omega)]
          exact WS.ret ⟨S3, .inl ⟨_, rfl, L3'.first O ua c7 (by omega) (by omega) h3⟩⟩
        rw [if_neg (by simp; omega)]
        by_cases c8 : at2 = 0
        · rw [if_pos (by simp; omega)]
          exact WS.ret ⟨S3, .inl ⟨_, rfl, L3'.done (.inr c8)⟩⟩
        rw [if_neg (by simp; omega)]
        have hx2 := g1' (at2 - 1) (by omega)
        refine WS.bnd (WS.elem (map_at (by omega)) ?_)
        have L4 := L3'.a1 O ub (by omega) (by omega) (by omega) fun _ => hx2
        by_cases c5 : at1 - 1 = 0
        · rw [if_pos (by simp; omega)]
          exact WS.ret ⟨S3, .inl ⟨_, rfl, L4.done (.inl c5)⟩⟩
        rw [if_neg (by simp; omega)]
        refine WS.ite ?_ ?_
        · exact WS.ret ⟨S3, .inr ⟨rfl, L4, by dsimp only; omega, by dsimp only; omega, by dsimp only; omega, by dsimp only; omega, by dsimp only; omega⟩⟩
        · exact WS.ret ⟨S3, rfl, L4, by dsimp only; omega, by dsimp only; omega, by dsimp only; omega, by dsimp only; omega, by dsimp only; omega⟩
      · rw [if_neg c6]
        have hx2 := g1' (nb - 1 - 1) (by omega)
        refine WS.bnd (WS.elem (map_at (by omega)) ?_)
        have L4 := L2.a1 O ub (by omega) (by omega) (by omega) fun _ => hx2
        by_cases c5 : at1 - 1 = 0
        · rw [if_pos (by simp; omega)]
          exact WS.ret ⟨S3, .inl ⟨_, rfl, L4.done (.inl c5)⟩⟩
        rw [if_neg (by simp; omega)]
        refine WS.ite ?_ ?_
        · exact WS.ret ⟨S3, .inr ⟨rfl, L4, by dsimp only; omega, by dsimp only; omega, by dsimp only; omega, by dsimp only; omega, by dsimp only; omega⟩⟩
        · exact WS.ret ⟨S3, rfl, L4, by dsimp only; omega, by dsimp only; omega, by dsimp only; omega, by dsimp only; omega, by dsimp only; omega⟩
    · rw [if_neg c1]
      have hx1 := f1' (na - 1) (by omega)
      refine WS.bnd (WS.elem (map_at (by omega)) ?_)
      have L2 := L.b1 O ua (by omega) (by omega) (by omega) fun _ => hx1
      by_cases c4 : nb - 1 = 1
      · rw [if_pos (by simp; omega)]
        exact WS.ret ⟨S3, .inl ⟨_, rfl, L2.first O ua c4 (by omega) (by omega) h3⟩⟩
      rw [if_neg (by simp; omega)]
      refine WS.bnd (WS.elem (map_at (by omega)) ?_)
      refine WS.bnd (WS.gallop K (S3.kind.trans hk) (ha _ (by omega)) (fun i hi => hb _ (by omega)) (by omega) (by omega) (fun i j hij hj hbt => ?_) fun at2 hk2 g1 g2 => ?_)
      · exact up_b O ub hij (by omega) hbt
      dsimp only
      have g1' : ∀ i, i < at2 → lt (gp pb i) (gp pa (na - 1)) = true := fun i hi => by
        have := g1 i hi
        rw [Nat.zero_add] at this
        exact this
      have g2' : ∀ i, at2 ≤ i → i < nb - 1 → lt (gp pb i) (gp pa (na - 1)) = false := fun i hi hi2 => by
        have := g2 i hi hi2
        rw [Nat.zero_add] at this
        exact this
      by_cases c6 : nb - 1 - at2 > 0
      · rw [if_pos c6]
        have L3' := L2.bs1 O ua (at_ := at2) (by omega) (by omega) (by omega) (by omega) g2'
        by_cases c7 : at2 = 1
        · rw [if_pos (by simp; omega)]
          exact WS.ret ⟨S3, .inl ⟨_, rfl, L3'.first O ua c7 (by omega) (by omega) h3⟩⟩
        rw [if_neg (by simp; omega)]
        by_cases c8 : at2 = 0
        · rw [if_pos (by simp; omega)]
          exact WS.ret ⟨S3, .inl ⟨_, rfl, L3'.done (.inr c8)⟩⟩
        rw [if_neg (by simp; omega)]
        have hx2 := g1' (at2 - 1) (by omega)
        refine WS.bnd (WS.elem (map_at (by omega)) ?_)
        have L4 := L3'.a1 O ub (by omega) (by omega) (by omega) fun _ => hx2
        by_cases c5 : na - 1 = 0
        · rw [if_pos (by simp; omega)]
          exact WS.ret ⟨S3, .inl ⟨_, rfl, L4.done (.inl c5)⟩⟩
        rw [if_neg (by simp; omega)]
        refine WS.ite ?_ ?_
        · exact WS.ret ⟨S3, .inr ⟨rfl, L4, by dsimp only; omega, by dsimp only; omega, by dsimp only; omega, by dsimp only; omega, by dsimp only; omega⟩⟩
        · exact WS.ret ⟨S3, rfl, L4, by dsimp only; omega, by dsimp only; omega, by dsimp only; omega, by dsimp only; omega, by dsimp only; omega⟩
      · rw [if_neg c6]
        have hx2 := g1' (nb - 1 - 1) (by omega)
        refine WS.bnd (WS.elem (map_at (by omega)) ?_)
        have L4 := L2.a1 O ub (by omega) (by omega) (by omega) fun _ => hx2
        by_cases c5 : na - 1 = 0
        · rw [if_pos (by simp; omega)]
          exact WS.ret ⟨S3, .inl ⟨_, rfl, L4.done (.inl c5)⟩⟩
        rw [if_neg (by simp; omega)]
        refine WS.ite ?_ ?_
        · exact WS.ret ⟨S3, .inr ⟨rfl, L4, by dsimp only; omega, by dsimp only; omega, by dsimp only; omega, by dsimp only; omega, by dsimp only; omega⟩⟩
        · exact WS.ret ⟨S3, rfl, L4, by dsimp only; omega, by dsimp only; omega, by dsimp only; omega, by dsimp only; omega, by dsimp only; omega⟩
end tim
end L3
namespace L3
open PySem PySem.W PySem.Calls PyProof.Rows
noncomputable abbrev countRunP : Nat → Nat → StateT SortSt Sem (Option Nat) := sortPriv% PySem.Builtin.countRun
noncomputable abbrev binarySortP : Nat → Nat → Nat → StateT SortSt Sem Bool := sortPriv% PySem.Builtin.binarySort
noncomputable def kst (κ : SortKind) (it : Array Keyed) (p : Array Nat) (pd : Array (Nat × Nat × Nat)) (g : Nat) : SortSt := SortSt.mk' κ (p.map (kas_item it)) pd g none
noncomputable def Srt (lt : Nat → Nat → Bool) (p : Array Nat) (a b : Nat) : Prop := ∀ i j, a ≤ i → i < j → j < b → lt (gp p i) (gp p j) = true
section
variable {lt : Nat → Nat → Bool} {n : Nat} {p : Array Nat} {a b : Nat}
theorem Srt.ext (O : Ordr lt n) (h : Srt lt p a b) (hab : a < b) (c : lt (gp p (b - 1)) (gp p b) = true) : Srt lt p a (b + 1) := fun i j hi hij hj => by
  by_cases e : j < b
  · exact h i j hi hij e
  · have e' : j = b := by omega
    subst e'
    by_cases e2 : i = j - 1
    · subst e2; exact c
    · exact O.tr _ _ _ (h i (j - 1) hi (by omega) (by omega)) c
theorem rev_gp (p : Array Nat) {a b : Nat} (hb : b ≤ p.size) (x : Nat) : gp (kas_rev p a b) x = if a ≤ x ∧ x < b then gp p (a + b - 1 - x) else gp p x := by
  have e := getElem?_mirror_all (xs := p) (i := a) (j := b) hb x
  have e' : (kas_rev p a b)[x]? = if a ≤ x ∧ x < b then p[a + b - 1 - x]? else p[x]? := e
  unfold gp
  rw [Array.getD_eq_getD_getElem?, e']
  by_cases h : a ≤ x ∧ x < b
  · rw [if_pos h, if_pos h, Array.getD_eq_getD_getElem?]
  · rw [if_neg h, if_neg h, Array.getD_eq_getD_getElem?]
theorem bub_gp (p : Array Nat) {src d : Nat} (hs : src < p.size) (hd : d ≤ src) (x : Nat) : gp (bubble p src d) x = if x = src - d then gp p src else if src - d < x ∧ x ≤ src then gp p (x - 1) else gp p x := by
  have e := getElem?_bubble (xs := p) hs d hd x
  unfold gp
  rw [Array.getD_eq_getD_getElem?, e]
  by_cases h : x = src - d
  · rw [if_pos h, if_pos h, Array.getD_eq_getD_getElem?]
  · rw [if_neg h, if_neg h]
    by_cases h' : src - d < x ∧ x ≤ src
    · rw [if_pos h', if_pos h', Array.getD_eq_getD_getElem?]
    · rw [if_neg h', if_neg h', Array.getD_eq_getD_getElem?]
end
section tim
variable {prog : Program} {w : World} {A : Around} {E : Value → Shared → Prop} {s : Shared} {α β : Type} {st : SortSt}
theorem WS.loopi {a b : Nat} {c : β} {f : Nat → β → StateT SortSt Sem (ForInStep β)} {Q : β → SortSt → Prop} (I : Nat → β → SortSt → Prop) (h0 : I a c st)
    (hs : ∀ x c st, a ≤ x → x < b → I x c st → WS prog w A E s (f x c) st fun r st' => match r with | .done c' => Q c' st' | .yield c' => I (x + 1) c' st') (hn : ∀ x c st, a ≤ x → b ≤ x → x ≤ max a b → I x c st → Q c st) : WS prog w A E s (forIn [a:b] c f) st Q := by
  refine kasC_range ?_
  have go : ∀ (k y : Nat) (c : β) (st : SortSt), a ≤ y → y + k = max a b → I y c st → WS prog w A E s (forIn (List.range' y k) c f) st Q := by
    intro k
    induction k with
    | zero =>
      intro y c st hy hk hi
      exact kasC_nil ⟨rfl, hn y c st hy (by omega) (by omega) hi⟩
    | succ k ih =>
      intro y c st hy hk hi
      refine kasC_cons (wpAny_mono (hs y c st hy (by omega) hi) (fun r s' h' => ?_) fun _ _ e => e)
      obtain ⟨r, st'⟩ := r
      obtain ⟨e, h'⟩ := h'
      cases r with
      | done c' => exact ⟨e, h'⟩
      | yield c' =>
        have e : s' = s := e
        subst e
        exact ih (y + 1) c' st' (by omega) (by omega) h'
  exact go (b - a) a c st (Nat.le_refl _) (by omega) h0
variable {κ : SortKind} {it : Array Keyed} {lt : Nat → Nat → Bool} {n : Nat} {p : Array Nat} {pd : Array (Nat × Nat × Nat)} {g : Nat}
theorem WS.rev {i j : Nat} {Q : PUnit → SortSt → Prop} (q : Q ⟨⟩ (kst κ it (kas_rev p i j) pd g)) : WS prog w A E s (reverseSlice' i j) (kst κ it p pd g) Q := by
  rw [reverseSlice'_eq]
  refine WS.mdf ?_
  have e1 : mirror (p.map (kas_item it)) i j ((j - i) / 2) = (mirror p i j ((j - i) / 2)).map (kas_item it) := kas_swaps_map (kas_item it) (fun k => i + k) (fun k => j - 1 - k) _ p
  show Q ⟨⟩ (SortSt.mk' κ (mirror (p.map (kas_item it)) i j ((j - i) / 2)) pd g none)
  rw [e1]; exact q
theorem WS.mov {k l : Nat} {Q : PUnit → SortSt → Prop} (q : Q ⟨⟩ (kst κ it (bubble p k (k - l)) pd g)) : WS prog w A E s (moveDown' k l) (kst κ it p pd g) Q := by
  rw [moveDown'_eq]
  refine WS.mdf ?_
  have e1 : bubble (p.map (kas_item it)) k (k - l) = (bubble p k (k - l)).map (kas_item it) := kas_swaps_map (kas_item it) (fun i => k - i) (fun i => k - i - 1) _ p
  show Q ⟨⟩ (SortSt.mk' κ (bubble (p.map (kas_item it)) k (k - l)) pd g none)
  rw [e1]; exact q
variable (K : AskOk prog w A s κ it lt n)
include K
theorem WS.lta {i j : Nat} {Q : Option Bool → SortSt → Prop} (P : OkP n p) (hi : i < n) (hj : j < n) (q : Q (some (lt (gp p i) (gp p j))) (kst κ it p pd g)) : WS prog w A E s (ltAt' i j) (kst κ it p pd g) Q := by
  have hs := P.size
  rw [ltAt'_eq]
  refine WS.bnd (WS.gt ?_)
  refine WS.bnd (WS.elem (map_at (by omega)) ?_)
  refine WS.bnd (WS.elem (map_at (by omega)) ?_)
  exact WS.ltq K rfl (P.below hi) (P.below hj) q
variable (O : Ordr lt n)
include O
theorem WS.count {lo nrem : Nat} {Q : Option Nat → SortSt → Prop} (P : OkP n p) (hlo : lo + nrem ≤ n) (h1 : 1 ≤ nrem)
    (q : ∀ m p', 1 ≤ m → m ≤ nrem → OkP n p' → (∀ x, x < lo ∨ lo + m ≤ x → gp p' x = gp p x) → Srt lt p' lo (lo + m) → Q (some m) (kst κ it p' pd g)) : WS prog w A E s (countRunP lo nrem) (kst κ it p pd g) Q := by
  have hs := P.size
  refine WS.bnd (WS.mono (WS.loop (Q := fun (c : Option (Option Nat) × Nat) st' => c.1 = none ∧ kst κ it p pd g = st' ∧ 1 ≤ c.2 ∧ c.2 ≤ nrem ∧ Srt lt p lo (lo + c.2) ∧ (c.2 < nrem → lt (gp p (lo + c.2)) (gp p (lo + c.2 - 1)) = true))
    (fun j (c : Option (Option Nat) × Nat) st' => c.1 = none ∧ kst κ it p pd g = st' ∧ 1 ≤ c.2 ∧ c.2 + j = nrem ∧ Srt lt p lo (lo + c.2)) ⟨rfl, rfl, Nat.le_refl _, by dsimp only; omega, fun i j a b c => by dsimp only at c; omega⟩ (fun j x c st' hI => ?_) fun c st' hI => ?_) fun c st' hQ => ?_)
  · obtain ⟨r, m⟩ := c
    obtain ⟨e0, e1, l1, l2, so⟩ := hI
    dsimp only at e0 l1 l2 so ⊢
    subst e0 e1
    refine WS.bnd (WS.lta K P (by omega) (by omega) ?_)
    dsimp only
    cases c : lt (gp p (lo + m)) (gp p (lo + m - 1)) with
    | true => rw [if_pos rfl]; exact WS.ret ⟨rfl, rfl, l1, by dsimp only; omega, so, fun _ => c⟩
    | false =>
      rw [if_neg (by decide)]
      have so2 : Srt lt p lo (lo + m + 1) := so.ext O (by omega) (co_at O P (by omega) (by omega) (by omega) c)
      exact WS.ret ⟨rfl, rfl, by dsimp only; omega, by dsimp only; omega, so2⟩
  · obtain ⟨e0, e1, l1, l2, so⟩ := hI
    exact ⟨e0, e1, l1, by omega, so, fun z => absurd z (by omega)⟩
  obtain ⟨r, m⟩ := c
  obtain ⟨e0, e1, l1, l2, so, c0⟩ := hQ
  dsimp only at e0 l1 l2 so c0 ⊢
  subst e0 e1
  dsimp only
  by_cases c1 : m = nrem
  · rw [if_pos (by simp [c1])]
    exact WS.ret (q m p l1 l2 P (fun _ _ => rfl) so)
  rw [if_neg (by simp [c1])]
  by_cases c2 : m > 1
  · rw [if_pos c2]
    refine WS.bnd (WS.lta K P (by omega) (by omega) ?_)
    rw [so lo (lo + m - 1) (Nat.le_refl _) (by omega) (by omega)]
    dsimp only
    rw [if_pos rfl]
    exact WS.ret (q m p l1 l2 P (fun _ _ => rfl) so)
  rw [if_neg c2]
  have hm : m = 1 := by omega
  subst hm
  have c0 := c0 (by omega)
  rw [show lo + 1 - 1 = lo by omega] at c0
  refine WS.bnd (WS.rl ?_)
  refine WS.bnd (WS.mono (WS.loop (Q := fun (c : Option (Option Nat) × Nat × Nat) st' => c.1 = none ∧ kst κ it p pd g = st' ∧ 2 ≤ c.2.1 ∧ c.2.2 = 0 ∧ c.2.1 ≤ nrem ∧ ∀ i j, lo ≤ i → i < j → j < lo + c.2.1 → lt (gp p j) (gp p i) = true)
    (fun k (c : Option (Option Nat) × Nat × Nat) st' => c.1 = none ∧ kst κ it p pd g = st' ∧ 2 ≤ c.2.1 ∧ c.2.2 = 0 ∧ c.2.1 + k = nrem ∧ ∀ i j, lo ≤ i → i < j → j < lo + c.2.1 → lt (gp p j) (gp p i) = true) ⟨rfl, rfl, by dsimp only; omega, rfl, by dsimp only; omega, fun i j a b c => by
      dsimp only at c
      have e1 : i = lo := by omega
      have e2 : j = lo + 1 := by omega
      subst e1 e2
      exact c0⟩ (fun k x c st' hI => ?_) fun c st' hI => ?_) fun c st' hQ => ?_)
  · obtain ⟨r, m, neq⟩ := c
    obtain ⟨e0, e1, l1, e2, l2, de⟩ := hI
    dsimp only at e0 l1 e2 l2 de ⊢
    subst e0 e1 e2
    refine WS.bnd (WS.lta K P (by omega) (by omega) ?_)
    dsimp only
    cases c : lt (gp p (lo + m)) (gp p (lo + m - 1)) with
    | true =>
      rw [if_pos rfl, if_neg (by omega)]
      refine WS.ret ⟨rfl, rfl, by dsimp only; omega, rfl, by dsimp only; omega, fun i j a b c' => ?_⟩
      dsimp only at c'
      by_cases e : j < lo + m
      · exact de i j a b e
      · have e' : j = lo + m := by omega
        subst e'
        by_cases e2 : i = lo + m - 1
        · subst e2; exact c
        · exact O.tr _ _ _ c (de i (lo + m - 1) a (by omega) (by omega))
    | false =>
      rw [if_neg (by decide)]
      refine WS.bnd (WS.lta K P (by omega) (by omega) ?_)
      rw [co_at O P (i := lo + m - 1) (j := lo + m) (by omega) (by omega) (by omega) c]
      dsimp only
      rw [if_pos rfl]
      exact WS.ret ⟨rfl, rfl, l1, rfl, by dsimp only; omega, de⟩
  · obtain ⟨e0, e1, l1, e2, l2, de⟩ := hI
    exact ⟨e0, e1, l1, e2, by omega, de⟩
  obtain ⟨r, m, neq⟩ := c
  obtain ⟨e0, e1, l1, e2, l2, de⟩ := hQ
  dsimp only at e0 l1 e2 l2 de ⊢
  subst e0 e1 e2
  dsimp only
  rw [if_neg (by omega)]
  refine WS.bnd (WS.rev ?_)
  have P1 : OkP n (kas_rev p lo (lo + m)) := P.perm (mirror_perm _ _ _ _)
  have g1 := rev_gp p (a := lo) (b := lo + m) (by omega)
  have so1 : Srt lt (kas_rev p lo (lo + m)) lo (lo + m) := fun i j hi hij hj => by
    rw [g1 i, if_pos ⟨hi, by omega⟩, g1 j, if_pos ⟨by omega, hj⟩]
    exact de _ _ (by omega) (by omega) (by omega)
  have ou1 : ∀ x, x < lo ∨ lo + m ≤ x → gp (kas_rev p lo (lo + m)) x = gp p x := fun x hx => by rw [g1 x, if_neg (by omega)]
  generalize kas_rev p lo (lo + m) = p1 at P1 so1 ou1 ⊢
  refine WS.bnd (WS.mono (WS.loop (Q := fun (c : Option (Option Nat) × Nat) st' => c.1 = none ∧ kst κ it p1 pd g = st' ∧ m ≤ c.2 ∧ c.2 ≤ nrem ∧ Srt lt p1 lo (lo + c.2))
    (fun j (c : Option (Option Nat) × Nat) st' => c.1 = none ∧ kst κ it p1 pd g = st' ∧ m ≤ c.2 ∧ c.2 + j = nrem ∧ Srt lt p1 lo (lo + c.2)) ⟨rfl, rfl, Nat.le_refl _, by dsimp only; omega, so1⟩ (fun j x c st' hI => ?_) fun c st' hI => ?_) fun c st' hQ => ?_)
  · obtain ⟨r, m'⟩ := c
    obtain ⟨e0, e1, l3, l4, so⟩ := hI
    dsimp only at e0 l3 l4 so ⊢
    subst e0 e1
    refine WS.bnd (WS.lta K P1 (by omega) (by omega) ?_)
    dsimp only
    cases c : lt (gp p1 (lo + m')) (gp p1 (lo + m' - 1)) with
    | true => rw [if_pos rfl]; exact WS.ret ⟨rfl, rfl, l3, by dsimp only; omega, so⟩
    | false =>
      rw [if_neg (by decide)]
      have so2 : Srt lt p1 lo (lo + m' + 1) := so.ext O (by omega) (co_at O P1 (by omega) (by omega) (by omega) c)
      exact WS.ret ⟨rfl, rfl, by dsimp only; omega, by dsimp only; omega, so2⟩
  · obtain ⟨e0, e1, l3, l4, so⟩ := hI
    exact ⟨e0, e1, l3, by omega, so⟩
  obtain ⟨r, m'⟩ := c
  obtain ⟨e0, e1, l3, l4, so⟩ := hQ
  dsimp only at e0 l3 l4 so ⊢
  subst e0 e1
  exact WS.ret (q m' p1 (by omega) l4 P1 (fun x hx => ou1 x (by omega)) so)
theorem WS.bin {lo m ok : Nat} {Q : Bool → SortSt → Prop} (P : OkP n p) (hlo : lo + m ≤ n) (h1 : 1 ≤ ok) (h2 : ok ≤ m) (so : Srt lt p lo (lo + ok))
    (q : ∀ p', OkP n p' → (∀ x, x < lo ∨ lo + m ≤ x → gp p' x = gp p x) → Srt lt p' lo (lo + m) → Q true (kst κ it p' pd g)) : WS prog w A E s (binarySortP lo m ok) (kst κ it p pd g) Q := by
  refine WS.bnd (WS.mono (WS.loopi (Q := fun (c : Option Bool × Unit) st' => c.1 = none ∧ ∃ p', kst κ it p' pd g = st' ∧ OkP n p' ∧ (∀ x, x < lo ∨ lo + m ≤ x → gp p' x = gp p x) ∧ Srt lt p' lo (lo + m))
    (fun k (c : Option Bool × Unit) st' => c.1 = none ∧ ∃ p', kst κ it p' pd g = st' ∧ OkP n p' ∧ (∀ x, x < lo ∨ lo + m ≤ x → gp p' x = gp p x) ∧ Srt lt p' lo (lo + k)) ⟨rfl, p, rfl, P, fun _ _ => rfl, by rw [show max ok 1 = ok by omega]; exact so⟩ (fun k c st' hk1 hk2 hI => ?_) fun k c st' hk1 hk2 hk3 hI => ?_) fun c st' hQ => ?_)
  · obtain ⟨r, u⟩ := c
    obtain ⟨e0, p', e1, P', ou, so'⟩ := hI
    dsimp only at e0 ⊢
    subst e0 e1
    have hs' := P'.size
    have hk : 1 ≤ k := by omega
    refine WS.bnd (WS.mono (WS.loop (Q := fun (c : Option Bool × Nat × Nat) st' => c.1 = none ∧ kst κ it p' pd g = st' ∧ c.2.1 ≤ k ∧ (∀ i, i < c.2.1 → lt (gp p' (lo + i)) (gp p' (lo + k)) = true) ∧ ∀ i, c.2.1 ≤ i → i < k → lt (gp p' (lo + k)) (gp p' (lo + i)) = true)
      (fun j (c : Option Bool × Nat × Nat) st' => c.1 = none ∧ kst κ it p' pd g = st' ∧ c.2.1 ≤ c.2.2 ∧ c.2.2 ≤ k ∧ c.2.2 ≤ c.2.1 + j ∧ (∀ i, i < c.2.1 → lt (gp p' (lo + i)) (gp p' (lo + k)) = true) ∧ ∀ i, c.2.2 ≤ i → i < k → lt (gp p' (lo + k)) (gp p' (lo + i)) = true) ⟨rfl, rfl, Nat.zero_le _, Nat.le_refl _, by dsimp only; omega, fun i hi => by dsimp only at hi; omega, fun i a b => by dsimp only at a; omega⟩ (fun j x c st' hI => ?_) fun c st' hI => ?_) fun c st' hQ => ?_)
    · obtain ⟨r, l, r'⟩ := c
      obtain ⟨e0, e1, l1, l2, l3, lo1, up1⟩ := hI
      dsimp only at e0 l1 l2 l3 lo1 up1 ⊢
      subst e0 e1
      by_cases c : l ≥ r'
      · rw [if_pos c]
        exact WS.ret ⟨rfl, rfl, by dsimp only; omega, lo1, fun i a b => up1 i (by dsimp only at a; omega) b⟩
      rw [if_neg c]
      refine WS.bnd (WS.lta K P' (by omega) (by omega) ?_)
      dsimp only
      cases c : lt (gp p' (lo + k)) (gp p' (lo + (l + r') / 2)) with
      | true =>
        rw [if_pos rfl]
        refine WS.ret ⟨rfl, rfl, by dsimp only; omega, by dsimp only; omega, by dsimp only; omega, lo1, fun i a b => ?_⟩
        dsimp only at a
        by_cases e : i = (l + r') / 2
        · rw [e]; exact c
        · exact O.tr _ _ _ c (so' _ _ (by omega) (by omega) (by omega))
      | false =>
        rw [if_neg (by decide)]
        have c2 := co_at O P' (i := lo + (l + r') / 2) (j := lo + k) (by omega) (by omega) (by omega) c
        refine WS.ret ⟨rfl, rfl, by dsimp only; omega, by dsimp only; omega, by dsimp only; omega, fun i a => ?_, up1⟩
        dsimp only at a
        by_cases e : i = (l + r') / 2
        · rw [e]; exact c2
        · exact O.tr _ _ _ (so' _ _ (by omega) (by omega) (by omega)) c2
    · obtain ⟨e0, e1, l1, l2, l3, lo1, up1⟩ := hI
      exact ⟨e0, e1, by omega, lo1, fun i a b => up1 i (by omega) b⟩
    obtain ⟨r, l, r'⟩ := c
    obtain ⟨e0, e1, l1, lo1, up1⟩ := hQ
    dsimp only at e0 l1 lo1 up1 ⊢
    subst e0 e1
    dsimp only
    refine WS.bnd (WS.mov (WS.ret ⟨rfl, bubble p' (lo + k) (lo + k - (lo + l)), rfl, P'.perm (bubble_perm _ _ _), fun x hx => ?_, ?_⟩))
    · rw [bub_gp p' (by omega) (by omega), if_neg (by omega), if_neg (by omega)]
      exact ou x hx
    · have gg := bub_gp p' (src := lo + k) (d := lo + k - (lo + l)) (by omega) (by omega)
      have ed : lo + k - (lo + k - (lo + l)) = lo + l := by omega
      rw [ed] at gg
      intro i j hi hij hj
      rw [gg i, gg j]
      by_cases a1 : i = lo + l
      · rw [if_pos a1, if_neg (by omega), if_pos (by omega)]
        have := up1 (j - 1 - lo) (by omega) (by omega)
        rwa [show lo + (j - 1 - lo) = j - 1 by omega] at this
      · rw [if_neg a1]
        by_cases a2 : lo + l < i
        · rw [if_pos ⟨a2, by omega⟩, if_neg (by omega), if_pos (by omega)]
          exact so' _ _ (by omega) (by omega) (by omega)
        · rw [if_neg (by omega)]
          by_cases b1 : j = lo + l
          · rw [if_pos b1]
            have := lo1 (i - lo) (by omega)
            rwa [show lo + (i - lo) = i by omega] at this
          · rw [if_neg b1]
            by_cases b2 : lo + l < j
            · rw [if_pos ⟨b2, by omega⟩]
              by_cases b3 : i = j - 1
              · omega
              · exact so' _ _ hi (by omega) (by omega)
            · rw [if_neg (by omega)]
              exact so' _ _ hi hij (by omega)
  · obtain ⟨e0, p', e1, P', ou, so'⟩ := hI
    have : k = m := by omega
    subst this
    exact ⟨e0, p', e1, P', ou, so'⟩
  obtain ⟨r, u⟩ := c
  obtain ⟨e0, p', e1, P', ou, so'⟩ := hQ
  dsimp only at e0 ⊢
  subst e0 e1
  exact WS.ret (q p' P' ou so')
end tim
end L3
namespace L3
open PySem PySem.W PySem.Calls PyProof.Rows
theorem fold_at {α : Type} (a : Nat) : ∀ (q : List α) (k : Nat) (arr : Array α), a + k + q.length ≤ arr.size → ∀ x, ((q.zipIdx k).foldl (fun (b : Array α) (y : α × Nat) => b.setIfInBounds (a + y.2) y.1) arr)[x]? = if a + k ≤ x ∧ x < a + k + q.length then q[x - (a + k)]? else arr[x]?
  | [], k, arr, _, x => by
    rw [List.zipIdx_nil, List.foldl_nil, if_neg (by rw [List.length_nil]; omega)]
  | v :: q, k, arr, h, x => by
    rw [List.length_cons] at h
    rw [List.zipIdx_cons, List.foldl_cons, fold_at a q (k + 1) _ (by rw [Array.size_setIfInBounds]; omega) x, List.length_cons]
    by_cases h1 : a + (k + 1) ≤ x ∧ x < a + (k + 1) + q.length
    · rw [if_pos h1, if_pos (by omega), show x - (a + k) = (x - (a + (k + 1))) + 1 by omega, List.getElem?_cons_succ]
    · rw [if_neg h1]
      by_cases h2 : x = a + k
      · rw [if_pos (by omega), h2, Nat.sub_self, List.getElem?_cons_zero, Array.getElem?_setIfInBounds_self_of_lt (by omega)]
      · rw [if_neg (by omega)]
        exact Array.getElem?_setIfInBounds_ne (fun e => h2 e.symm)
noncomputable def wr {α : Type} (p : Array α) (a : Nat) (q : List α) : Array α := (p.toList.take a ++ q ++ p.toList.drop (a + q.length)).toArray
theorem wr_at {α : Type} {p : Array α} {a : Nat} {q : List α} (h : a + q.length ≤ p.size) (x : Nat) : (wr p a q)[x]? = if a ≤ x ∧ x < a + q.length then q[x - a]? else p[x]? := by
  unfold wr
  have hl : p.toList.length = p.size := by simp
  have ht : (p.toList.take a).length = a := by rw [List.length_take]; omega
  rw [List.getElem?_toArray, List.append_assoc]
  by_cases h1 : x < a
  · rw [List.getElem?_append_left (by omega), List.getElem?_take_of_lt h1, if_neg (by omega), Array.getElem?_toList]
  · rw [List.getElem?_append_right (by omega), ht]
    by_cases h2 : x < a + q.length
    · rw [List.getElem?_append_left (by omega), if_pos (by omega)]
    · rw [List.getElem?_append_right (by omega), List.getElem?_drop, if_neg (by omega), show a + q.length + (x - a - q.length) = x by omega, Array.getElem?_toList]
theorem fold_wr {p : Array Nat} {it : Array Keyed} {a : Nat} {q : Array Nat} (h : a + q.size ≤ p.size) : ((q.map (kas_item it)).toList.zipIdx).foldl (fun (b : Array Keyed) (y : Keyed × Nat) => b.setIfInBounds (a + y.2) y.1) (p.map (kas_item it)) = (wr p a q.toList).map (kas_item it) := by
  apply Array.ext_getElem?
  intro x
  have := fold_at a (q.map (kas_item it)).toList 0 (p.map (kas_item it)) (by simp; omega) x
  have e2 : ((wr p a q.toList).map (kas_item it))[x]? = ((wr p a q.toList)[x]?).map (kas_item it) := Array.getElem?_map ..
  rw [this, e2, wr_at (by simpa using h)]
  simp only [Nat.add_zero, Array.toList_map, List.length_map, Array.length_toList]
  by_cases c : a ≤ x ∧ x < a + q.size
  · rw [if_pos c, if_pos c, List.getElem?_map]
  · rw [if_neg c, if_neg c, Array.getElem?_map]
theorem wr_gp {p : Array Nat} {a : Nat} {q : List Nat} (h : a + q.length ≤ p.size) (x : Nat) : gp (wr p a q) x = if a ≤ x ∧ x < a + q.length then q.getD (x - a) 0 else gp p x := by
  unfold gp
  rw [Array.getD_eq_getD_getElem?, wr_at h]
  by_cases c : a ≤ x ∧ x < a + q.length
  · rw [if_pos c, if_pos c, List.getD_eq_getElem?_getD]
  · rw [if_neg c, if_neg c, Array.getD_eq_getD_getElem?]
theorem wr_perm {p : Array Nat} {n a b : Nat} {q : List Nat} (P : OkP n p) (h : a ≤ b) (hb : b ≤ p.size) (hq : q.Perm ((p.toList.drop a).take (b - a))) : OkP n (wr p a q) := by
  have hl : q.length = b - a := by rw [hq.length_eq, List.length_take, List.length_drop]; simp; omega
  unfold wr OkP
  refine List.Perm.trans ?_ P
  show (p.toList.take a ++ q ++ p.toList.drop (a + q.length)).Perm p.toList
  rw [hl, show a + (b - a) = b by omega]
  have e : p.toList = p.toList.take a ++ ((p.toList.drop a).take (b - a) ++ p.toList.drop b) := by
    have e1 := List.take_append_drop (b - a) (p.toList.drop a)
    rw [List.drop_drop, show a + (b - a) = b by omega] at e1
    rw [e1, List.take_append_drop]
  rw [List.append_assoc]
  conv => rhs; rw [e]
  exact List.Perm.append_left _ (hq.append_right _)
theorem ext_gp {p : Array Nat} {a b i : Nat} (hb : b ≤ p.size) (hi : i < b - a) : gp (p.extract a b) i = gp p (a + i) := by
  unfold gp
  rw [Array.getD_eq_getD_getElem?, Array.getD_eq_getD_getElem?, Array.getElem?_extract, if_pos (by omega)]
theorem ext_size {p : Array Nat} {a b : Nat} (hb : b ≤ p.size) : (p.extract a b).size = b - a := by rw [Array.size_extract]; omega
section
variable {lt : Nat → Nat → Bool} {n : Nat} {p : Array Nat}
theorem up_br {a b base i j k : Nat} (O : Ordr lt n) (so : Srt lt p a b) (h0 : a ≤ base) (hij : i ≤ j) (hj : base + j < b) (h : bey lt true k (gp p (base + j)) = true) : bey lt true k (gp p (base + i)) = true := by
  unfold bey at h ⊢
  rw [if_pos rfl] at h ⊢
  by_cases e : i = j
  · rw [e]; exact h
  · exact O.tr _ _ _ (so _ _ (by omega) (show base + i < base + j by omega) hj) h
theorem up_ar {a b base i j k : Nat} (O : Ordr lt n) (so : Srt lt p a b) (h0 : a ≤ base) (hij : i ≤ j) (hj : base + j < b) (h : bey lt false k (gp p (base + j)) = true) : bey lt false k (gp p (base + i)) = true := by
  unfold bey at h ⊢
  rw [if_neg (by decide)] at h ⊢
  by_cases e : i = j
  · rw [e]; exact h
  · cases c : lt k (gp p (base + i)) with
    | false => rfl
    | true =>
      rw [O.tr _ _ _ c (so _ _ (by omega) (show base + i < base + j by omega) hj)] at h
      cases h
end
theorem mem_gp {p : Array Nat} {u : Nat} (h : u ∈ p.toList) : ∃ i, i < p.size ∧ u = gp p i := by
  obtain ⟨i, hi, e⟩ := List.getElem_of_mem h
  have hi' : i < p.size := by simpa using hi
  exact ⟨i, hi', by rw [← e, gp_list, List.getD_eq_getElem?_getD, List.getElem?_eq_getElem hi]; rfl⟩
theorem up_of {lt : Nat → Nat → Bool} {p : Array Nat} (h : ∀ i j, i < j → j < p.size → lt (gp p i) (gp p j) = true) : Up lt p.toList := by
  unfold Up
  rw [List.pairwise_iff_getElem]
  intro i j hi hj hij
  have := h i j hij (by simpa using hj)
  rw [gp_list, gp_list, List.getD_eq_getElem?_getD, List.getD_eq_getElem?_getD, List.getElem?_eq_getElem hi, List.getElem?_eq_getElem hj] at this
  exact this
theorem of_up {lt : Nat → Nat → Bool} {l : List Nat} (h : Up lt l) {i j : Nat} (hij : i < j) (hj : j < l.length) : lt (l.getD i 0) (l.getD j 0) = true := by
  have := List.pairwise_iff_getElem.mp h i j (by omega) hj hij
  rw [List.getD_eq_getElem?_getD, List.getD_eq_getElem?_getD, List.getElem?_eq_getElem hj, List.getElem?_eq_getElem (show i < l.length by omega)]
  exact this
theorem seg_app (p : Array Nat) {a b c : Nat} (h1 : a ≤ b) (h2 : b ≤ c) : (p.extract a b).toList ++ (p.extract b c).toList = (p.toList.drop a).take (c - a) := by
  simp only [Array.toList_extract, List.extract_eq_drop_take]
  have : List.drop b p.toList = (List.drop a p.toList).drop (b - a) := by rw [List.drop_drop, show a + (b - a) = b by omega]
  rw [this, show c - a = (b - a) + (c - b) by omega, List.take_add]
noncomputable abbrev PdT := Nat × Nat × Nat
theorem pd_at {pd : Array PdT} {l1 l2 : List PdT} {x : PdT} (h : pd.toList = l1 ++ x :: l2) : pd[l1.length]? = some x := by
  rw [← Array.getElem?_toList, h]; simp
theorem pd_at1 {pd : Array PdT} {l1 l2 : List PdT} {x y : PdT} (h : pd.toList = l1 ++ x :: y :: l2) : pd[l1.length + 1]? = some y := by
  rw [← Array.getElem?_toList, h, List.getElem?_append_right (by omega), show l1.length + 1 - l1.length = 1 by omega]; rfl
theorem pd_join {pd : Array PdT} {l1 l2 : List PdT} {x y z : PdT} (h : pd.toList = l1 ++ x :: y :: l2) : ((pd.setIfInBounds l1.length z).eraseIdxIfInBounds (l1.length + 1)).toList = l1 ++ z :: l2 := by
  have e1 : (pd.setIfInBounds l1.length z).toList = l1 ++ z :: y :: l2 := by
    rw [Array.toList_setIfInBounds, h, List.set_append_right _ _ (Nat.le_refl _), Nat.sub_self]; rfl
  have e2 : ((pd.setIfInBounds l1.length z).eraseIdxIfInBounds (l1.length + 1)).toList = (pd.setIfInBounds l1.length z).toList.eraseIdx (l1.length + 1) := by simp
  rw [e2, e1, List.eraseIdx_append_of_length_le (by omega), show l1.length + 1 - l1.length = 1 by omega]
  rfl
section tim
variable {prog : Program} {w : World} {A : Around} {E : Value → Shared → Prop} {s : Shared} {κ : SortKind} {it : Array Keyed} {lt : Nat → Nat → Bool} {n : Nat} {p : Array Nat} {pd : Array PdT} {g : Nat}
variable (K : AskOk prog w A s κ it lt n) (O : Ordr lt n)
include K O
theorem WS.mrg {l1 l2 : List PdT} {sa na pw sb nb pw' : Nat} {Q : Bool → SortSt → Prop} (hpd : pd.toList = l1 ++ (sa, na, pw) :: (sb, nb, pw') :: l2) (hsb : sb = sa + na) (h1 : 1 ≤ na) (h2 : 1 ≤ nb) (he : sb + nb ≤ n) (P : OkP n p) (soA : Srt lt p sa sb) (soB : Srt lt p sb (sb + nb))
    (q : ∀ p' (pd' : Array PdT) g', OkP n p' → pd'.toList = l1 ++ (sa, na + nb, pw) :: l2 → (∀ x, x < sa ∨ sb + nb ≤ x → gp p' x = gp p x) → Srt lt p' sa (sb + nb) → Q true (kst κ it p' pd' g')) : WS prog w A E s (mergeAt' l1.length) (kst κ it p pd g) Q := by
  have hs := P.size
  have a1 := pd_at hpd
  have a2 := pd_at1 hpd
  have a3 := pd_join (z := (sa, na + nb, pw)) hpd
  refine WS.bnd (WS.gt ?_)
  dsimp only [kst]
  rw [a1, a2]
  dsimp only
  refine WS.bnd (WS.sto ?_)
  refine WS.bnd (WS.elem (map_at (by omega)) ?_)
  refine WS.bnd (WS.gallop K rfl (P.below (by omega)) (fun i hi => P.below (by omega)) (by omega) (by omega) (fun i j hij hj hbt => up_ar O soA (Nat.le_refl _) hij (by omega) hbt) fun k hk g1 g2 => ?_)
  have f1 : ∀ i, i < k → lt (gp p (sa + i)) (gp p sb) = true := fun i hi => by
    have := g1 i hi
    unfold bey at this
    exact co_at O P (by omega) (by omega) (by omega) (by simpa using this)
  have f2 : ∀ i, k ≤ i → i < na → lt (gp p sb) (gp p (sa + i)) = true := fun i hi hi2 => by
    have := g2 i hi hi2
    unfold bey at this
    simpa using this
  have f3 : ∀ y, sb ≤ y → y < sb + nb → ∀ i, i < k → lt (gp p (sa + i)) (gp p y) = true := fun y hy hy2 i hi => by
    by_cases e : y = sb
    · rw [e]; exact f1 i hi
    · exact O.tr _ _ _ (f1 i hi) (soB _ _ (Nat.le_refl _) (by omega) hy2)
  dsimp only
  by_cases c1 : na - k = 0
  · rw [if_pos (by simp; omega)]
    refine WS.ret (q p _ g P a3 (fun _ _ => rfl) fun i j hi hij hj => ?_)
    by_cases b1 : j < sb
    · exact soA i j hi hij b1
    · by_cases b2 : i < sb
      · have := f3 j (by omega) hj (i - sa) (by omega)
        rwa [show sa + (i - sa) = i by omega] at this
      · exact soB i j (by omega) hij hj
  rw [if_neg (by simp; omega)]
  refine WS.bnd (WS.elem (map_at (by omega)) ?_)
  refine WS.bnd (WS.gallop K rfl (P.below (by omega)) (fun i hi => P.below (by omega)) (by omega) (by omega) (fun i j hij hj hbt => up_br O soB (Nat.le_refl _) hij (by omega) hbt) fun k2 hk2 e1 e2 => ?_)
  have eL : sa + k + (na - k) - 1 = sb - 1 := by omega
  rw [eL] at e1 e2
  have d1 : ∀ i, i < k2 → lt (gp p (sb + i)) (gp p (sb - 1)) = true := fun i hi => e1 i hi
  have d2 : ∀ i, k2 ≤ i → i < nb → lt (gp p (sb - 1)) (gp p (sb + i)) = true := fun i hi hi2 => co_at O P (by omega) (by omega) (by omega) (e2 i hi hi2)
  have d0 : lt (gp p sb) (gp p (sb - 1)) = true := by
    have := f2 (na - 1) (by omega) (by omega)
    rwa [show sa + (na - 1) = sb - 1 by omega] at this
  have hk0 : k2 ≠ 0 := fun z => by
    have := e2 0 (by omega) (by omega)
    rw [Nat.add_zero] at this
    unfold bey at this
    rw [if_pos rfl, d0] at this
    cases this
  dsimp only
  rw [if_neg (by simp; omega)]
  have sx := ext_size (p := p) (a := sa + k) (b := sb) (by omega)
  have sy := ext_size (p := p) (a := sb) (b := sb + k2) (by omega)
  have gx : ∀ i, i < (p.extract (sa + k) sb).size → gp (p.extract (sa + k) sb) i = gp p (sa + k + i) := fun i hi => ext_gp (by omega) (by omega)
  have gy : ∀ i, i < (p.extract sb (sb + k2)).size → gp (p.extract sb (sb + k2)) i = gp p (sb + i) := fun i hi => ext_gp (by omega) (by omega)
  have ex : (p.map (kas_item it)).extract (sa + k) sb = (p.extract (sa + k) sb).map (kas_item it) := Array.map_extract.symm
  have ey : (p.map (kas_item it)).extract sb (sb + k2) = (p.extract sb (sb + k2)).map (kas_item it) := Array.map_extract.symm
  rw [ex, ey]
  have post : ∀ (po : Array Nat) (gg : Nat), po.toList = mg lt (p.extract (sa + k) sb).toList (p.extract sb (sb + k2)).toList → Q true (kst κ it (wr p (sa + k) po.toList) ((pd.setIfInBounds l1.length (sa, na + nb, pw)).eraseIdxIfInBounds (l1.length + 1)) gg) ∧ sa + k + po.size ≤ p.size := by
    intro po gg epo
    have hseg := seg_app p (a := sa + k) (b := sb) (c := sb + k2) (by omega) (by omega)
    have hper := mg_perm (lt := lt) (p.extract (sa + k) sb).toList (p.extract sb (sb + k2)).toList
    have nd0 : p.toList.Nodup := P.nodup_iff.mpr List.nodup_range
    have ndS : ((p.extract (sa + k) sb).toList ++ (p.extract sb (sb + k2)).toList).Nodup := by
      rw [hseg]; exact nd0.sublist ((List.take_sublist _ _).trans (List.drop_sublist _ _))
    have hbelow : ∀ u ∈ (p.extract (sa + k) sb).toList ++ (p.extract sb (sb + k2)).toList, u < n := fun u hu => by
      rw [hseg] at hu
      have : u ∈ p.toList := List.mem_of_mem_drop (List.mem_of_mem_take hu)
      exact List.mem_range.mp (P.mem_iff.mp this)
    have hup := mg_up O _ _ ndS hbelow (up_of fun i j hij hj => by rw [gx i (by omega), gx j hj]; exact soA _ _ (by omega) (by omega) (by omega)) (up_of fun i j hij hj => by rw [gy i (by omega), gy j hj]; exact soB _ _ (by omega) (by omega) (by omega))
    have hlen : po.toList.length = (na - k) + k2 := by rw [epo, hper.length_eq, List.length_append, Array.length_toList, Array.length_toList, sx, sy]; omega
    have hsz : po.size = (na - k) + k2 := by simpa using hlen
    have hfit : sa + k + po.toList.length ≤ p.size := by omega
    have hmem : ∀ i, i < (na - k) + k2 → ∃ y, (sa + k ≤ y ∧ y < sb + k2) ∧ po.toList.getD i 0 = gp p y := fun i hi => by
      have hm : po.toList.getD i 0 ∈ po.toList := by
        rw [List.getD_eq_getElem?_getD, List.getElem?_eq_getElem (by omega)]; exact List.getElem_mem _
      rw [epo] at hm
      have hm := hper.mem_iff.mp hm
      rw [← epo] at hm
      rcases List.mem_append.mp hm with z | z
      · obtain ⟨y, hy, e⟩ := mem_gp z
        exact ⟨sa + k + y, by omega, by rw [e, gx y hy]⟩
      · obtain ⟨y, hy, e⟩ := mem_gp z
        exact ⟨sb + y, by omega, by rw [e, gy y hy]⟩
    have gw := wr_gp hfit
    have tail : ∀ y, sa + k ≤ y → y < sb + k2 → ∀ j, sb + k2 ≤ j → j < sb + nb → lt (gp p y) (gp p j) = true := fun y hy1 hy2 j hj1 hj2 => by
      by_cases c : y < sb
      · have e1 := d2 (j - sb) (by omega) (by omega)
        rw [show sb + (j - sb) = j by omega] at e1
        by_cases c' : y = sb - 1
        · rw [c']; exact e1
        · exact O.tr _ _ _ (soA y (sb - 1) (by omega) (by omega) (by omega)) e1
      · exact soB y j (by omega) (by omega) hj2
    have head : ∀ i, sa ≤ i → i < sa + k → ∀ y, sa + k ≤ y → y < sb + nb → lt (gp p i) (gp p y) = true := fun i hi1 hi2 y hy1 hy2 => by
      by_cases c : y < sb
      · exact soA i y hi1 (by omega) c
      · have := f3 y (by omega) hy2 (i - sa) (by omega)
        rwa [show sa + (i - sa) = i by omega] at this
    refine ⟨q _ _ gg (wr_perm P (a := sa + k) (b := sb + k2) (by omega) (by omega) (by rw [epo, ← hseg]; exact hper)) a3 (fun x hx => by rw [gw x, if_neg (by omega)]) fun i j hi hij hj => ?_, by omega⟩
    rw [gw i, gw j, hlen]
    by_cases i1 : i < sa + k
    · rw [if_neg (show ¬ (sa + k ≤ i ∧ i < sa + k + (na - k + k2)) by omega)]
      by_cases j1 : j < sa + k
      · rw [if_neg (by omega)]
        exact soA i j hi hij (by omega)
      · by_cases j2 : j < sa + k + (na - k + k2)
        · rw [if_pos (by omega)]
          obtain ⟨y, hy, e⟩ := hmem (j - (sa + k)) (by omega)
          rw [e]
          exact head i hi i1 y hy.1 (by omega)
        · rw [if_neg (by omega)]
          exact head i hi i1 j (by omega) hj
    · by_cases i2 : i < sa + k + (na - k + k2)
      · rw [if_pos (show sa + k ≤ i ∧ i < sa + k + (na - k + k2) by omega)]
        by_cases j2 : j < sa + k + (na - k + k2)
        · rw [if_pos (by omega), epo]
          exact of_up hup (by omega) (by rw [← epo]; omega)
        · rw [if_neg (by omega)]
          obtain ⟨y, hy, e⟩ := hmem (i - (sa + k)) (by omega)
          rw [e]
          exact tail y hy.1 hy.2 j (by omega) hj
      · rw [if_neg (show ¬ (sa + k ≤ i ∧ i < sa + k + (na - k + k2)) by omega), if_neg (by omega)]
        exact soB i j (by omega) hij hj
  have hax : ∀ i, i < (p.extract (sa + k) sb).size → gp (p.extract (sa + k) sb) i < n := fun i hi => by rw [gx i hi]; exact P.below (by omega)
  have hby : ∀ i, i < (p.extract sb (sb + k2)).size → gp (p.extract sb (sb + k2)) i < n := fun i hi => by rw [gy i hi]; exact P.below (by omega)
  have hua : ∀ i j, i < j → j < (p.extract (sa + k) sb).size → lt (gp (p.extract (sa + k) sb) i) (gp (p.extract (sa + k) sb) j) = true := fun i j hij hj => by rw [gx i (by omega), gx j hj]; exact soA _ _ (by omega) (by omega) (by omega)
  have hub : ∀ i j, i < j → j < (p.extract sb (sb + k2)).size → lt (gp (p.extract sb (sb + k2)) i) (gp (p.extract sb (sb + k2)) j) = true := fun i j hij hj => by rw [gy i (by omega), gy j hj]; exact soB _ _ (by omega) (by omega) (by omega)
  have hq3 : lt (gp (p.extract sb (sb + k2)) 0) (gp (p.extract (sa + k) sb) 0) = true := by rw [gx 0 (by omega), gy 0 (by omega)]; exact f2 k (Nat.le_refl _) (by omega)
  have hq4 : ∀ j, j < (p.extract sb (sb + k2)).size → lt (gp (p.extract sb (sb + k2)) j) (gp (p.extract (sa + k) sb) ((p.extract (sa + k) sb).size - 1)) = true := fun j hj => by
    rw [gy j hj, gx _ (by omega), show sa + k + ((p.extract (sa + k) sb).size - 1) = sb - 1 by omega]
    exact d1 j (by omega)
  refine WS.ite ?_ ?_
  · refine WS.bnd (WS.mergeLo K O rfl hax hby hua hub (by omega) (by omega) hq3 hq4 fun r st' S F => ?_)
    obtain ⟨gg, rfl⟩ := S
    obtain ⟨po, rfl, epo⟩ := F
    obtain ⟨r1, r2⟩ := post po gg epo
    refine WS.bnd (WS.mdf (WS.bnd (WS.gt (WS.ret ?_))))
    unfold kst at r1
    rw [← fold_wr r2] at r1
    exact r1
  · refine WS.bnd (WS.mergeHi K O rfl hax hby hua hub (by omega) (by omega) hq3 hq4 fun r st' S F => ?_)
    obtain ⟨gg, rfl⟩ := S
    obtain ⟨po, rfl, epo⟩ := F
    obtain ⟨r1, r2⟩ := post po gg epo
    refine WS.bnd (WS.mdf (WS.bnd (WS.gt (WS.ret ?_))))
    unfold kst at r1
    rw [← fold_wr r2] at r1
    exact r1
end tim
end L3
namespace L3
open PySem PySem.W PySem.Calls PyProof.Rows
noncomputable def Runs (lt : Nat → Nat → Bool) (p : Array Nat) : List PdT → Nat → Nat → Prop
  | [], b, e => b = e
  | (s, m, _) :: r, b, e => s = b ∧ 1 ≤ m ∧ Srt lt p b (b + m) ∧ Runs lt p r (b + m) e
section
variable {lt : Nat → Nat → Bool} {p p' : Array Nat}
theorem Runs.len : ∀ {l : List PdT} {b e : Nat}, Runs lt p l b e → b + l.length ≤ e
  | [], b, e, h => by have h : b = e := h; simp; omega
  | (s, m, _) :: r, b, e, h => by
    have := Runs.len h.2.2.2
    have := h.2.1
    rw [List.length_cons]; omega
theorem Runs.app : ∀ {l1 l2 : List PdT} {b e : Nat}, Runs lt p (l1 ++ l2) b e → ∃ c, Runs lt p l1 b c ∧ Runs lt p l2 c e
  | [], l2, b, e, h => ⟨b, rfl, h⟩
  | (s, m, q) :: r, l2, b, e, h => by
    obtain ⟨c, h1, h2⟩ := Runs.app (l1 := r) h.2.2.2
    exact ⟨c, ⟨h.1, h.2.1, h.2.2.1, h1⟩, h2⟩
theorem Runs.cat : ∀ {l1 l2 : List PdT} {b c e : Nat}, Runs lt p l1 b c → Runs lt p l2 c e → Runs lt p (l1 ++ l2) b e
  | [], l2, b, c, e, h1, h2 => by have h1 : b = c := h1; subst h1; exact h2
  | (s, m, q) :: r, l2, b, c, e, h1, h2 => ⟨h1.1, h1.2.1, h1.2.2.1, Runs.cat h1.2.2.2 h2⟩
theorem Runs.same : ∀ {l : List PdT} {b e : Nat}, (∀ x, b ≤ x → x < e → gp p' x = gp p x) → Runs lt p l b e → Runs lt p' l b e
  | [], b, e, _, h => h
  | (s, m, q) :: r, b, e, hx, h => by
    have h1 := h.2.2.2.len
    refine ⟨h.1, h.2.1, fun i j hi hij hj => ?_, Runs.same (fun x a b => hx x (by omega) b) h.2.2.2⟩
    rw [hx i (by omega) (by omega), hx j (by omega) (by omega)]
    exact h.2.2.1 i j hi hij hj
theorem Runs.pow : ∀ {l : List PdT} {x : PdT} {b e w : Nat}, Runs lt p (l ++ [x]) b e → Runs lt p (l ++ [(x.1, x.2.1, w)]) b e
  | [], (s, m, q), b, e, w, h => h
  | (s, m, q) :: r, x, b, e, w, h => ⟨h.1, h.2.1, h.2.2.1, Runs.pow (l := r) h.2.2.2⟩
end
theorem two_at {l : List PdT} {i : Nat} (h : i + 1 < l.length) : ∃ l1 x y l2, l = l1 ++ x :: y :: l2 ∧ l1.length = i := by
  refine ⟨l.take i, l[i], l[i + 1], l.drop (i + 2), ?_, by rw [List.length_take]; omega⟩
  rw [List.getElem_cons_drop, List.getElem_cons_drop, List.take_append_drop]
theorem pd_last {pd : Array PdT} {f : PdT → PdT} {l : List PdT} {x : PdT} (h : pd.toList = l ++ [x]) : (pd.modify (pd.size - 1) f).toList = l ++ [f x] := by
  have hs : pd.size = l.length + 1 := by have := congrArg List.length h; simpa using this
  apply List.ext_getElem?
  intro i
  rw [Array.getElem?_toList, Array.getElem?_modify]
  by_cases e : pd.size - 1 = i
  · rw [if_pos e, ← Array.getElem?_toList, h, ← e, hs, show l.length + 1 - 1 = l.length by omega]
    simp
  · rw [if_neg e, ← Array.getElem?_toList, h]
    by_cases c : i < l.length
    · rw [List.getElem?_append_left c, List.getElem?_append_left c]
    · rw [List.getElem?_eq_none (by simp; omega), List.getElem?_eq_none (by simp; omega)]
section tim
variable {prog : Program} {w : World} {A : Around} {E : Value → Shared → Prop} {s : Shared} {κ : SortKind} {it : Array Keyed} {lt : Nat → Nat → Bool} {n : Nat} {p : Array Nat} {pd : Array PdT} {g : Nat}
variable (K : AskOk prog w A s κ it lt n) (O : Ordr lt n)
include K O
theorem WS.mrgR {i e : Nat} {Q : Bool → SortSt → Prop} (hi : i + 1 < pd.size) (P : OkP n p) (R : Runs lt p pd.toList 0 e) (he : e ≤ n)
    (q : ∀ p' (pd' : Array PdT) g', OkP n p' → pd'.size + 1 = pd.size → Runs lt p' pd'.toList 0 e → (∀ x, e ≤ x → gp p' x = gp p x) → Q true (kst κ it p' pd' g')) : WS prog w A E s (mergeAt' i) (kst κ it p pd g) Q := by
  obtain ⟨l1, x, y, l2, h, rfl⟩ := two_at (l := pd.toList) (i := i) (by simpa using hi)
  obtain ⟨sa, na, pw⟩ := x
  obtain ⟨sb, nb, pw'⟩ := y
  rw [h] at R
  obtain ⟨c, R1, R2⟩ := R.app
  obtain ⟨rfl, n1, s1, rfl, n2, s2, R3⟩ := R2
  have l3 := R3.len
  have l0 := R1.len
  refine WS.mrg K O h rfl n1 n2 (by omega) P s1 s2 fun p' pd' g' P' hpd' ou so => ?_
  refine q p' pd' g' P' ?_ ?_ fun x hx => ou x (by omega)
  · have e1 := congrArg List.length h
    have e2 := congrArg List.length hpd'
    simp only [List.length_append, List.length_cons, Array.length_toList] at e1 e2
    omega
  · rw [hpd']
    refine (R1.same fun x _ hx => ou x (by omega)).cat ⟨rfl, by omega, ?_, ?_⟩
    · have : Srt lt p' sa (sa + na + nb) := so
      rwa [Nat.add_assoc] at this
    · rw [← Nat.add_assoc]
      exact R3.same fun x hx _ => ou x (by omega)
theorem WS.runs {Q : Unit → SortSt → Prop} (P : OkP n p) (hn : 1 ≤ n) (q : ∀ p' pd' g', OkP n p' → Srt lt p' 0 n → Q () (kst κ it p' pd' g')) : WS prog w A E s sortRuns' (kst κ it p #[] g) Q := by
  have hsz : (p.map (kas_item it)).size = n := by rw [Array.size_map, P.size]
  refine WS.bnd (WS.gt ?_)
  dsimp only [kst]
  rw [hsz]
  refine WS.bnd (WS.mono (WS.loop (Q := fun (c : Option Unit × Nat) st' => c.1 = none ∧ ∃ p' pd' g', kst κ it p' pd' g' = st' ∧ OkP n p' ∧ Runs lt p' pd'.toList 0 n)
    (fun j (c : Option Unit × Nat) st' => c.1 = none ∧ c.2 ≤ n ∧ n ≤ c.2 + j ∧ ∃ p' pd' g', kst κ it p' pd' g' = st' ∧ OkP n p' ∧ Runs lt p' pd'.toList 0 c.2) ⟨rfl, Nat.zero_le _, by dsimp only; omega, p, #[], g, rfl, P, rfl⟩ (fun j x c st' hI => ?_) fun c st' hI => ?_) fun c st' hQ => ?_)
  case refine_2 =>
    obtain ⟨e0, l1, l2, p', pd', g', e1, P', R⟩ := hI
    rw [show c.2 = n by omega] at R
    exact ⟨e0, p', pd', g', e1, P', R⟩
  case refine_1 =>
    obtain ⟨r, lo⟩ := c
    obtain ⟨e0, l1, l2, p', pd', g', e1, P', R⟩ := hI
    dsimp only at e0 l1 l2 R ⊢
    subst e0 e1
    by_cases c : lo ≥ n
    · rw [if_pos c]
      have : lo = n := by omega
      subst this
      exact WS.ret ⟨rfl, p', pd', g', rfl, P', R⟩
    rw [if_neg c]
    refine WS.bnd (WS.count K O P' (by omega) (by omega) fun m p1 m1 m2 P1 ou1 so1 => ?_)
    have R1 : Runs lt p1 pd'.toList 0 lo := R.same fun x _ hx => ou1 x (.inl hx)
    dsimp only
    refine WS.itec (fun cm => ?_) fun cm => ?_
    · refine WS.bnd (WS.rl ?_)
      refine WS.bnd (WS.bin K O P1 (by omega) m1 (by omega) so1 fun p2 P2 ou2 so2 => ?_)
      rw [if_neg (by decide)]
      have R2 : Runs lt p2 pd'.toList 0 lo := R1.same fun x _ hx => ou2 x (.inl hx)
      generalize hM' : min (n - lo) _ = M at so2 ou2 ⊢
      have hM : 1 ≤ M := by omega
      refine WS.bnd (WS.gt ?_)
      dsimp only [kst]
      cases hb : pd'.back? with
      | none =>
        dsimp only
        refine WS.bnd (WS.mdf (WS.ret ⟨rfl, by dsimp only; omega, by dsimp only; omega, p2, pd'.push (lo, M, 0), g', rfl, P2, ?_⟩))
        rw [Array.toList_push]
        exact R2.cat ⟨rfl, hM, so2, rfl⟩
      | some x =>
        obtain ⟨s1, n1, q1⟩ := x
        dsimp only
        have hne : 1 ≤ pd'.size := by
          rw [Array.back?_eq_getElem?] at hb
          have := (Array.getElem?_eq_some_iff.mp hb).1
          omega
        refine WS.bnd (WS.mono (WS.loop (Q := fun (c : Option Unit × Unit) st' => c.1 = none ∧ ∃ p2 pd2 g2, kst κ it p2 pd2 g2 = st' ∧ OkP n p2 ∧ 1 ≤ pd2.size ∧ Runs lt p2 pd2.toList 0 lo ∧ Srt lt p2 lo (lo + M))
          (fun _ (c : Option Unit × Unit) st' => c.1 = none ∧ ∃ p2 pd2 g2, kst κ it p2 pd2 g2 = st' ∧ OkP n p2 ∧ 1 ≤ pd2.size ∧ Runs lt p2 pd2.toList 0 lo ∧ Srt lt p2 lo (lo + M)) ⟨rfl, p2, pd', g', rfl, P2, hne, R2, so2⟩ (fun j' x' c st' hI => ?_) fun c st' hI => hI) fun c st' hQ => ?_)
        · obtain ⟨r, u⟩ := c
          obtain ⟨e0, p2, pd2, g2, e1, P2, h2, R2, S2⟩ := hI
          have e0 : r = none := e0
          subst e0 e1
          refine WS.bnd (WS.gt ?_)
          dsimp only [kst]
          by_cases c : pd2.size > 1
          · rw [if_pos c, Array.getElem?_eq_getElem (show pd2.size - 2 < pd2.size by omega)]
            dsimp only
            refine WS.ite (WS.ret ⟨rfl, p2, pd2, g2, rfl, P2, h2, R2, S2⟩) ?_
            refine WS.bnd (WS.mrgR K O (by omega) P2 R2 (by omega) fun p3 pd3 g3 P3 h3 R3 ou3 => ?_)
            rw [if_neg (by decide)]
            exact WS.ret ⟨rfl, p3, pd3, g3, rfl, P3, by omega, R3, fun i j hi hij hj => by rw [ou3 i hi, ou3 j (by omega)]; exact S2 i j hi hij hj⟩
          · rw [if_neg c]
            exact WS.ret ⟨rfl, p2, pd2, g2, rfl, P2, h2, R2, S2⟩
        obtain ⟨r, u⟩ := c
        obtain ⟨e0, p2, pd2, g2, e1, P2, h2, R2, S2⟩ := hQ
        have e0 : r = none := e0
        subst e0 e1
        dsimp only
        obtain ⟨l, x, hx⟩ : ∃ l x, pd2.toList = l ++ [x] := by
          rcases List.eq_nil_or_concat pd2.toList with z | ⟨l, x, z⟩
          · have := congrArg List.length z
            rw [Array.length_toList, List.length_nil] at this
            omega
          · rw [List.concat_eq_append] at z
            exact ⟨l, x, z⟩
        refine WS.bnd (WS.mdf (WS.bnd (WS.mdf (WS.ret ⟨rfl, by dsimp only; omega, by dsimp only; omega, p2, _, g2, rfl, P2, ?_⟩))))
        rw [Array.toList_push]
        refine Runs.cat (c := lo) ?_ ⟨rfl, hM, S2, rfl⟩
        rw [hx] at R2
        exact (pd_last hx).symm ▸ R2.pow
    · have hM : 1 ≤ m := m1
      refine WS.bnd (WS.gt ?_)
      dsimp only [kst]
      cases hb : pd'.back? with
      | none =>
        dsimp only
        refine WS.bnd (WS.mdf (WS.ret ⟨rfl, by dsimp only; omega, by dsimp only; omega, p1, pd'.push (lo, m, 0), g', rfl, P1, ?_⟩))
        rw [Array.toList_push]
        exact R1.cat ⟨rfl, hM, so1, rfl⟩
      | some x =>
        obtain ⟨s1, n1, q1⟩ := x
        dsimp only
        have hne : 1 ≤ pd'.size := by
          rw [Array.back?_eq_getElem?] at hb
          have := (Array.getElem?_eq_some_iff.mp hb).1
          omega
        refine WS.bnd (WS.mono (WS.loop (Q := fun (c : Option Unit × Unit) st' => c.1 = none ∧ ∃ p2 pd2 g2, kst κ it p2 pd2 g2 = st' ∧ OkP n p2 ∧ 1 ≤ pd2.size ∧ Runs lt p2 pd2.toList 0 lo ∧ Srt lt p2 lo (lo + m))
          (fun _ (c : Option Unit × Unit) st' => c.1 = none ∧ ∃ p2 pd2 g2, kst κ it p2 pd2 g2 = st' ∧ OkP n p2 ∧ 1 ≤ pd2.size ∧ Runs lt p2 pd2.toList 0 lo ∧ Srt lt p2 lo (lo + m)) ⟨rfl, p1, pd', g', rfl, P1, hne, R1, so1⟩ (fun j' x' c st' hI => ?_) fun c st' hI => hI) fun c st' hQ => ?_)
        · obtain ⟨r, u⟩ := c
          obtain ⟨e0, p2, pd2, g2, e1, P2, h2, R2, S2⟩ := hI
          have e0 : r = none := e0
          subst e0 e1
          refine WS.bnd (WS.gt ?_)
          dsimp only [kst]
          by_cases c : pd2.size > 1
          · rw [if_pos c, Array.getElem?_eq_getElem (show pd2.size - 2 < pd2.size by omega)]
            dsimp only
            refine WS.ite (WS.ret ⟨rfl, p2, pd2, g2, rfl, P2, h2, R2, S2⟩) ?_
            refine WS.bnd (WS.mrgR K O (by omega) P2 R2 (by omega) fun p3 pd3 g3 P3 h3 R3 ou3 => ?_)
            rw [if_neg (by decide)]
            exact WS.ret ⟨rfl, p3, pd3, g3, rfl, P3, by omega, R3, fun i j hi hij hj => by rw [ou3 i hi, ou3 j (by omega)]; exact S2 i j hi hij hj⟩
          · rw [if_neg c]
            exact WS.ret ⟨rfl, p2, pd2, g2, rfl, P2, h2, R2, S2⟩
        obtain ⟨r, u⟩ := c
        obtain ⟨e0, p2, pd2, g2, e1, P2, h2, R2, S2⟩ := hQ
        have e0 : r = none := e0
        subst e0 e1
        dsimp only
        obtain ⟨l, x, hx⟩ : ∃ l x, pd2.toList = l ++ [x] := by
          rcases List.eq_nil_or_concat pd2.toList with z | ⟨l, x, z⟩
          · have := congrArg List.length z
            rw [Array.length_toList, List.length_nil] at this
            omega
          · rw [List.concat_eq_append] at z
            exact ⟨l, x, z⟩
        refine WS.bnd (WS.mdf (WS.bnd (WS.mdf (WS.ret ⟨rfl, by dsimp only; omega, by dsimp only; omega, p2, _, g2, rfl, P2, ?_⟩))))
        rw [Array.toList_push]
        refine Runs.cat (c := lo) ?_ ⟨rfl, hM, S2, rfl⟩
        rw [hx] at R2
        exact (pd_last hx).symm ▸ R2.pow
  obtain ⟨r, lo⟩ := c
  obtain ⟨e0, p', pd', g', e1, P', R⟩ := hQ
  dsimp only at e0 ⊢
  subst e0 e1
  dsimp only
  refine WS.bnd (WS.mono (WS.loop (Q := fun (c : Option Unit × Unit) st' => c.1 = none ∧ ∃ p' pd' g', kst κ it p' pd' g' = st' ∧ OkP n p' ∧ Runs lt p' pd'.toList 0 n ∧ pd'.size ≤ 1)
    (fun j (c : Option Unit × Unit) st' => c.1 = none ∧ ∃ p' pd' g', kst κ it p' pd' g' = st' ∧ OkP n p' ∧ Runs lt p' pd'.toList 0 n ∧ pd'.size ≤ j + 1) ⟨rfl, p', pd', g', rfl, P', R, by have := R.len; rw [Array.length_toList] at this; omega⟩ (fun j x c st' hI => ?_) fun c st' hI => hI) fun c st' hQ => ?_)
  · obtain ⟨r, u⟩ := c
    obtain ⟨e0, p', pd', g', e1, P', R, hl⟩ := hI
    dsimp only at e0 ⊢
    subst e0 e1
    refine WS.bnd (WS.gt ?_)
    dsimp only [kst]
    by_cases c : pd'.size ≤ 1
    · rw [if_pos c]
      exact WS.ret ⟨rfl, p', pd', g', rfl, P', R, c⟩
    rw [if_neg c]
    refine WS.bnd (WS.mrgR K O ?hi P' R (Nat.le_refl _) fun p3 pd3 g3 P3 h3 R3 ou3 => ?_)
    case hi =>
      have f : ∀ (C : Prop) [Decidable C], (if C then pd'.size - 2 - 1 else pd'.size - 2) + 1 < pd'.size := fun C _ => by
        by_cases h : C
        · rw [if_pos h]; omega
        · rw [if_neg h]; omega
      exact f _
    rw [if_neg (by decide)]
    exact WS.ret ⟨rfl, p3, pd3, g3, rfl, P3, R3, by omega⟩
  obtain ⟨r, u⟩ := c
  obtain ⟨e0, p', pd', g', e1, P', R, hl⟩ := hQ
  dsimp only at e0 ⊢
  subst e0 e1
  refine WS.ret (q p' pd' g' P' ?_)
  cases h : pd'.toList with
  | nil => rw [h] at R; have R : 0 = n := R; omega
  | cons x r =>
    have hr : r = [] := by
      have := congrArg List.length h
      rw [Array.length_toList, List.length_cons] at this
      exact List.length_eq_zero_iff.mp (by omega)
    subst hr
    rw [h] at R
    obtain ⟨s', m, q'⟩ := x
    obtain ⟨_, _, so, e⟩ := R
    have e : 0 + m = n := e
    rw [e] at so
    exact so
end tim
end L3
namespace L3
open PySem PySem.W PySem.Calls PyProof.Rows
section
variable {prog : Program} {w : World} {A : Around} {E : Value → Shared → Prop} {vs : List Value} {f : Value} {lt : Nat → Nat → Bool}
structure SortJ (prog : Program) (w : World) (A : Around) (vs : List Value) (f : Value) (lt : Nat → Nat → Bool) (a kS : Addr) (J : List Value → Shared → Prop) : Prop where
  upd : ∀ ks (s : Shared) h' x, J ks s → (x = a ∨ x = kS) → Heap.SameBut x s.heap h' → J ks { s with heap := h' }
  key : ∀ ks v r (s : Shared), vs.drop ks.length = v :: r → J ks s → (∃ o, s.heap.get? a = some o) → (∃ o, s.heap.get? kS = some o) →
    wpAny (model prog w) A (call f [v]) (fun k s' => J (ks ++ [k]) s' ∧ s'.heap.get? a = s.heap.get? a ∧ s'.heap.get? kS = s.heap.get? kS) (fun _ _ => False) s
  kind : ∀ ks (s : Shared) (Q : SortKind → Shared → Prop), J ks s → ks.length = vs.length → 2 ≤ vs.length → Q (tuples' true) s → wpAny (model prog w) A (keyKind' ks.toArray) Q (fun _ _ => False) s
  ask : ∀ ks (s : Shared) i j (C : Bool → Shared → Prop), J ks s → ks.length = vs.length → i < vs.length → j < vs.length → C (lt i j) s → kas_ask prog w A (tuples' true) ks i j C s
theorem hupd_ne {h : Heap} {a b : Addr} {g : Obj → Obj} (n : b ≠ a) : (h.update a g).get? b = h.get? b := (Heap.SameBut.update h a g).2 b n
theorem sort_keys {a kS : Addr} {J : List Value → Shared → Prop} (SJ : SortJ prog w A vs f lt a kS J) (hne : a ≠ kS) (h64 : vs.length < 1000) {body : Value → PUnit → Sem (ForInStep PUnit)}
    (hb : ∀ x ks e (s : Shared) (C : Value → Shared → Prop), ks.length < 1000 → s.heap.get? kS = some (seqObj "list" (List.toArray ks) e) →
      wpAny (model prog w) A (call f [x]) (fun k s' => C k s' ∧ s'.heap.get? kS = s.heap.get? kS) (fun _ _ => False) s →
      wpAny (model prog w) A (body x ⟨⟩) (fun r s' => r = .yield ⟨⟩ ∧ ∃ k s1, C k s1 ∧ s' = { s1 with heap := s1.heap.update kS (Obj.mapSeq (·.push k)) }) E s) {e1 : Nat} :
    ∀ (r ks : List Value) (e : Nat) (s : Shared), vs.drop ks.length = r → ks.length + r.length = vs.length → s.heap.get? kS = some (seqObj "list" (List.toArray ks) e) → s.heap.get? a = some (seqObj "list" #[] e1) → J ks s →
      wpAny (model prog w) A (forIn r PUnit.unit body) (fun _ s' => ∃ ks e, s'.heap.get? kS = some (seqObj "list" (List.toArray ks) e) ∧ s'.heap.get? a = some (seqObj "list" #[] e1) ∧ ks.length = vs.length ∧ J ks s') E s
  | [], ks, e, s, _, hl, hk, ha, j => by
    rw [List.forIn_nil]
    exact wpAny_pure ⟨ks, e, hk, ha, by simpa using hl, j⟩
  | x :: r, ks, e, s, hd, hl, hk, ha, j => by
    rw [List.length_cons] at hl
    rw [List.forIn_cons]
    refine wpAny_bind (wpAny_mono (hb x ks e s (fun k s' => J (ks ++ [k]) s' ∧ s'.heap.get? a = s.heap.get? a ∧ s'.heap.get? kS = s.heap.get? kS) (by omega) hk (wpAny_mono (SJ.key ks x r s hd j ⟨_, ha⟩ ⟨_, hk⟩) (fun k s' q => ⟨q, q.2.2⟩) fun _ _ x => x)) (fun q s' hq => ?_) fun _ _ x => x)
    obtain ⟨rfl, k, s1, ⟨j1, a1, k1⟩, rfl⟩ := hq
    show wpAny (model prog w) A (forIn r PUnit.unit body) _ E _
    have e2 : s1.heap.get? kS = some (seqObj "list" (List.toArray ks) e) := k1.trans hk
    have ea : (List.toArray ks).push k = List.toArray (ks ++ [k]) := by simp
    obtain ⟨c, hc⟩ : ∃ c, (s1.heap.update kS (Obj.mapSeq (·.push k))).get? kS = some (seqObj "list" (List.toArray (ks ++ [k])) c) := ⟨_, by rw [← ea]; exact get?_update_seq e2 (·.push k)⟩
    refine sort_keys SJ hne h64 hb r (ks ++ [k]) c _ ?_ (by rw [List.length_append, List.length_singleton]; omega) hc (by show (s1.heap.update kS _).get? a = _; rw [hupd_ne hne]; exact a1.trans ha) (SJ.upd _ _ _ kS j1 (.inr rfl) (Heap.SameBut.update _ _ _))
    rw [List.length_append, List.length_singleton, ← List.drop_drop, hd]; rfl
theorem sort_end {a kS : Addr} {J : List Value → Shared → Prop} (SJ : SortJ prog w A vs f lt a kS J) (O : Ordr lt vs.length) (hne : a ≠ kS) (h64 : vs.length < 1000) {e e1 : Nat} {ks : List Value} {s : Shared} {P : PySem.Fin → Shared → Prop}
    (hk : s.heap.get? kS = some (seqObj "list" (List.toArray ks) e)) (ha : s.heap.get? a = some (seqObj "list" #[] e1)) (hl : ks.length = vs.length) (j : J ks s)
    (h : ∀ s' p c, J ks s' → OkP vs.length p → SoP lt p vs.length → s'.heap.get? a = some (seqObj "list" (p.toList.map fun i => vs.getD i Value.none).toArray c) → P (.done (.ret .none)) s') :
    wpAny (model prog w) A (ksk_end a false vs.toArray e1 (.ref kS) (List.toArray ks)) P E s := by
  have tail : ∀ (st : SortSt) (p : Array Nat), failedOf st = none → (arrOf st).map (·.2) = List.toArray (p.toList.map fun i => vs.getD i Value.none) → OkP vs.length p → SoP lt p vs.length →
      wpAny (model prog w) A (ksk_tail a false e1 (.ref kS) st) P E s := by
    intro st p hf hout ok so
    have hsz : (List.toArray (p.toList.map fun i => vs.getD i Value.none)).size = vs.length := by rw [List.size_toArray, List.length_map, Array.length_toList, ok.size]
    have ha' : (s.heap.update kS (Obj.mapSeq fun _ => (#[] : Array Value))).get? a = some (seqObj "list" #[] e1) := by rw [hupd_ne hne]; exact ha
    unfold ksk_tail
    try dsimp only
    rw [hout]
    refine wpAny_bind (listUpdate_at hk rfl ?_ (by rw [List.size_toArray, sizeLine_eq]; omega) (Nat.zero_le _))
    refine wpAny_bind (wpAny_letGo ?_)
    refine wpAny_bind (seqEpoch_at ha' rfl ?_)
    refine wpAny_bind (listUpdate_at ha' rfl ?_ (Nat.zero_le _) (Nat.le_trans (Nat.le_of_eq hsz) (by rw [sizeLine_eq]; omega)))
    rw [hf]
    simp only [bne_self_eq_false, Bool.false_eq_true, if_false]
    obtain ⟨c2, hc2⟩ : ∃ c2, ((s.heap.update kS (Obj.mapSeq fun _ => (#[] : Array Value))).update a (Obj.mapSeq fun _ => List.toArray (p.toList.map fun i => vs.getD i Value.none))).get? a = some (seqObj "list" (List.toArray (p.toList.map fun i => vs.getD i Value.none)) c2) := ⟨_, get?_update_seq ha' fun _ => List.toArray (p.toList.map fun i => vs.getD i Value.none)⟩
    exact wpAny_pure (h _ p c2 (SJ.upd _ { s with heap := s.heap.update kS (Obj.mapSeq fun _ => (#[] : Array Value)) } _ a (SJ.upd _ s _ kS j (.inr rfl) (Heap.SameBut.update _ _ _)) (.inl rfl) (Heap.SameBut.update _ _ _)) ok so hc2)
  unfold ksk_end
  try dsimp only
  simp only [Bool.false_eq_true, if_false]
  by_cases hn : vs.toArray.size < 2
  · rw [if_pos hn, if_pos hn]
    rw [List.size_toArray] at hn
    refine wpAny_bind (wpAny_pure (wpAny_bind ?_))
    rw [StateT.run_pure]
    refine wpAny_pure (tail _ (List.toArray (List.range vs.length)) rfl ?_ (List.Perm.refl _) (fun i j a b => by omega))
    show ((List.toArray ks).zip vs.toArray).map (·.2) = _
    match vs, ks, hl, hn with
    | [], [], _, _ => simp
    | [v], [k], _, _ => simp
  · rw [if_neg hn, if_neg hn]
    rw [List.size_toArray] at hn
    refine wpAny_bind (wpAny_mono (SJ.kind ks s (fun κ s' => κ = tuples' true ∧ s' = s) j hl (by omega) ⟨rfl, rfl⟩) (fun κ s' hκ => ?_) fun _ _ x => x.elim)
    obtain ⟨rfl, rfl⟩ := hκ
    have hsz2 : ((List.toArray ks).zip vs.toArray).size = vs.length := by simp [hl]
    have est : SortSt.mk' (tuples' true) ((List.toArray ks).zip vs.toArray) #[] 7 none = kst (tuples' true) ((List.toArray ks).zip vs.toArray) (List.toArray (List.range vs.length)) #[] 7 := by
      have e := kas_range ((List.toArray ks).zip vs.toArray)
      rw [hsz2] at e
      unfold kst
      rw [e]
    rw [est]
    refine wpAny_bind (wpAny_mono (WS.runs (E := fun _ _ => False) (Q := fun _ st' => ∃ p : Array Nat, arrOf st' = p.map (kas_item ((List.toArray ks).zip vs.toArray)) ∧ failedOf st' = none ∧ OkP vs.length p ∧ Srt lt p 0 vs.length)
      (fun i j' C hi hj hC => by rw [← kat_ask_eq hl]; exact SJ.ask ks s' i j' C j hl hi hj hC) O (List.Perm.refl _) (by omega) fun p' pd' g' ok so => ⟨p', rfl, rfl, ok, so⟩) ?_ fun _ _ x => x.elim)
    rintro ⟨⟨⟩, st'⟩ s'' ⟨e, p, har, hf, ok, so⟩
    have e : s'' = s' := e
    subst e
    try dsimp only
    exact tail st' p hf (kat_snds hl har) ok fun i j h1 h2 => so i j (Nat.zero_le _) h1 h2
theorem sort_tree {a : Addr} {n0 : Nat} {s : Shared} {P : PySem.Fin → Shared → Prop} {J : Addr → List Value → Shared → Prop} (ho : s.heap.get? a = some (seqObj "list" vs.toArray n0)) (h64 : vs.length < 1000) (O : Ordr lt vs.length)
    (SJ : ∀ kS, s.heap.objs.size ≤ kS → SortJ prog w A vs f lt a kS (J kS))
    (h0 : ∀ kS h', (∀ b o, b ≠ a → s.heap.get? b = some o → h'.get? b = some o) → s.heap.objs.size ≤ kS → J kS [] { s with heap := h' })
    (h : ∀ kS ks s' p c, s.heap.objs.size ≤ kS → J kS ks s' → ks.length = vs.length → OkP vs.length p → SoP lt p vs.length → s'.heap.get? a = some (seqObj "list" (p.toList.map fun i => vs.getD i Value.none).toArray c) → P (.done (.ret .none)) s') :
    wpAny (model prog w) A (ksk_tree a f false) P E s := by
  have hlt : a < s.heap.objs.size := Heap.lt_size ho
  obtain ⟨e1, ho1⟩ : ∃ e1, (s.heap.update a (Obj.mapSeq fun _ => (#[] : Array Value))).get? a = some (seqObj "list" #[] e1) := ⟨_, get?_update_seq ho fun _ => #[]⟩
  have hkS : ((s.heap.update a (Obj.mapSeq fun _ => (#[] : Array Value))).push (seqObj "tuple" vs.toArray 0)).objs.size = s.heap.objs.size + 1 := by rw [size_push', Heap.size_update]
  unfold ksk_tree
  refine wpAny_bind (listItems_at ho rfl ?_)
  refine wpAny_bind (listUpdate_at ho rfl ?_ (by rw [List.size_toArray, sizeLine_eq]; omega) (Nat.zero_le _))
  refine wpAny_bind (seqEpoch_at ho1 rfl ?_)
  refine wpAny_bind (wpAny_newTuple ?_ (by show vs.length ≤ _; rw [sizeLine_eq]; omega))
  refine wpAny_bind (wpAny_newList ?_ (Nat.zero_le _))
  refine wpAny_holding ?_
  show wpAny _ _ (ksk_rest a f false vs.toArray e1 (.ref ((s.heap.update a (Obj.mapSeq fun _ => (#[] : Array Value))).push (seqObj "tuple" vs.toArray 0)).objs.size)) _ _ { s with heap := ((s.heap.update a (Obj.mapSeq fun _ => (#[] : Array Value))).push (seqObj "tuple" vs.toArray 0)).push (seqObj "list" #[] 0) }
  have kk : (((s.heap.update a (Obj.mapSeq fun _ => (#[] : Array Value))).push (seqObj "tuple" vs.toArray 0)).push (seqObj "list" #[] 0)).get? ((s.heap.update a (Obj.mapSeq fun _ => (#[] : Array Value))).push (seqObj "tuple" vs.toArray 0)).objs.size = some (seqObj "list" #[] 0) := Heap.get?_push_size _ rfl
  generalize hK : ((s.heap.update a (Obj.mapSeq fun _ => (#[] : Array Value))).push (seqObj "tuple" vs.toArray 0)).objs.size = kS at kk ⊢
  rw [hkS] at hK
  have hge : s.heap.objs.size ≤ kS := by omega
  have hne : a ≠ kS := Nat.ne_of_lt (Nat.lt_of_lt_of_le hlt hge)
  have sj := SJ kS hge
  unfold ksk_rest
  refine wpAny_bind (wpAny_rule ?_)
  first
    | rw [List.forIn_toArray]
    | (rw [← Array.forIn_toList]; simp only [List.toList_toArray])
    | rw [← Array.forIn_toList]
  refine wpAny_bind (wpAny_mono (sort_keys (E := E) sj hne h64 (e1 := e1) (fun x ks e s' C hz hx hc => ?_) vs [] 0 _ rfl (by simp) kk (Heap.get?_push_of_some _ (Heap.get?_push_of_some _ ho1)) (h0 kS _ (fun b o n q => Heap.get?_push_of_some _ (Heap.get?_push_of_some _ (by rw [hupd_ne n]; exact q))) hge)) (fun _ s' hd => ?_) fun _ _ x => x)
  · refine wpAny_bind (wpAny_attempt (wpAny_mono hc (fun k s'' hk => ?_) fun _ _ hF => hF.elim))
    try dsimp only
    have hx' : s''.heap.get? kS = some (seqObj "list" (List.toArray ks) e) := hk.2.trans hx
    refine wpAny_bind (listUpdate_at hx' rfl ?_ (by rw [List.size_toArray, sizeLine_eq]; omega) (Nat.le_trans (Nat.le_of_eq (Array.size_push ..)) (by rw [List.size_toArray, sizeLine_eq]; omega)))
    exact wpAny_pure ⟨rfl, k, s'', hk.1, rfl⟩
  · obtain ⟨ks, e, hk', ha', hl, j⟩ := hd
    try dsimp only
    refine wpAny_bind (listItems_at hk' rfl ?_)
    exact sort_end sj O hne h64 hk' ha' hl j fun s' p c j' ok so g => h kS ks s' p c hge j' hl ok so g
theorem sorted_key {l : Addr} {kf : Addr} {s : Shared} {Q : Value → Shared → Prop} {J : Addr → Addr → List Value → Shared → Prop} (hl : s.heap.IsList l vs.toArray) (h64 : vs.length < 1000) (O : Ordr lt vs.length)
    (SJ : ∀ D kS, s.heap.objs.size ≤ D → D < kS → SortJ prog w A.in1.in1 vs (.ref kf) lt D kS (J D kS))
    (h0 : ∀ D kS h', (∀ b o, s.heap.get? b = some o → h'.get? b = some o) → s.heap.objs.size ≤ D → D < kS → J D kS [] { s with heap := h' })
    (h : ∀ D kS ks s' p c, s.heap.objs.size ≤ D → D < kS → J D kS ks s' → ks.length = vs.length → OkP vs.length p → SoP lt p vs.length → s'.heap.get? D = some (seqObj "list" (p.toList.map fun i => vs.getD i Value.none).toArray c) → Q (.ref D) s') :
    wpAny (model prog w) A (call (.builtin "sorted") [.ref l] [(Str.ofString "key", .ref kf)]) Q E s := by
  refine call_function_entry_kw kind_sorted plain_sorted entry_sorted (ksk_s1 _ _) ?_
  unfold Builtin.«sorted»
  refine wpAny_bind (m := checkCount "sorted" 1 1 _) (wpAny_pure ?_)
  refine wpAny_bind (collect_list hl ?_ (by rw [sizeLine_eq]; omega))
  refine wpAny_bind (wpAny_newList ?_ (by rw [sizeLine_eq]; omega))
  have hsz : ((s.heap.push (seqObj "list" #[] 0)).update s.heap.objs.size (Obj.mapSeq (· ++ vs.toArray))).objs.size = s.heap.objs.size + 1 := by
    rw [Heap.size_update, size_push']
  have hoL : (((s.heap.push (seqObj "list" #[] 0)).update s.heap.objs.size (Obj.mapSeq (· ++ vs.toArray))).push (seqObj "list" vs.toArray 0)).get? (s.heap.objs.size + 1) = some (seqObj "list" vs.toArray 0) := by
    rw [← hsz]; exact Heap.get?_push_size _ rfl
  have keep : ∀ b o, s.heap.get? b = some o → (((s.heap.push (seqObj "list" #[] 0)).update s.heap.objs.size (Obj.mapSeq (· ++ vs.toArray))).push (seqObj "list" vs.toArray 0)).get? b = some o := fun b o q => by
    have hlt : b < s.heap.objs.size := Heap.lt_size q
    rw [Heap.get?_push_ne _ _ _ (by rw [hsz]; exact Nat.ne_of_lt (Nat.lt_succ_of_lt hlt)), Heap.get?_update_ne _ _ _ _ (Nat.ne_of_lt hlt), Heap.get?_push_ne _ _ _ (Nat.ne_of_lt hlt)]
    exact q
  have hsz2 : (((s.heap.push (seqObj "list" #[] 0)).update s.heap.objs.size (Obj.mapSeq (· ++ vs.toArray))).push (seqObj "list" vs.toArray 0)).objs.size = s.heap.objs.size + 2 := by rw [size_push', hsz]
  show wpAny _ _ _ _ _ { s with heap := ((s.heap.push (seqObj "list" #[] 0)).update s.heap.objs.size (Obj.mapSeq (· ++ vs.toArray))).push (seqObj "list" vs.toArray 0) }
  rw [hsz]
  refine wpAny_bind (wpAny_holding (wpAny_call_entry_kw slot_list_sort ⟨_, hoL, rfl⟩ entry_list_sort ?body (ksk_l1 _ _)))
  case body =>
    show wpAny (model prog w) A.in1.in1 (Builtin.«list.sort» ⟨[.ref (s.heap.objs.size + 1)], [(Str.ofString "key", .ref kf)]⟩) _ _ _
    rw [ksk_t1]
    have key : ∀ kS, (((s.heap.push (seqObj "list" #[] 0)).update s.heap.objs.size (Obj.mapSeq (· ++ vs.toArray))).push (seqObj "list" vs.toArray 0)).objs.size ≤ kS → s.heap.objs.size + 2 ≤ kS := fun kS q => by rw [hsz2] at q; exact q
    refine sort_tree (J := fun kS ks s' => J (s.heap.objs.size + 1) kS ks s') (s := { s with heap := ((s.heap.push (seqObj "list" #[] 0)).update s.heap.objs.size (Obj.mapSeq (· ++ vs.toArray))).push (seqObj "list" vs.toArray 0) }) hoL h64 O
      (fun kS hk => SJ _ kS (by omega) (by have := key kS hk; omega)) (fun kS h' hk hge => h0 _ kS h' (fun b o q => hk b o (Nat.ne_of_lt (Nat.lt_succ_of_lt (Heap.lt_size q))) (keep b o q)) (by omega) (by have := key kS hge; omega))
      fun kS ks s' p c hge j hl' ok so g => ⟨_, rfl, wpAny_pure ⟨_, rfl, h _ kS ks s' p c (by omega) (by have := key kS hge; omega) j hl' ok so g⟩⟩
end
end L3
namespace L2
open PySem PySem.Spec PyProof.Rows
noncomputable def tab0 (P : Addr) : HO := .ext fun h => h.get? P = some (PySem.W.tabObj #[])
noncomputable def tab1 (P : Addr) : HO := .ext fun h => ∃ ps, h.get? P = some (PySem.W.tabObj ps)
noncomputable def cxLam (X : Cx) (N : List Str) (qual : Str) (scope : Scope) (f : Addr) (cd : Value) (cl : List (Str × Addr)) (A : Around) (s : Shared) (H : Hp) : Cx where
  prog := X.prog
  w := X.w
  K := X.K
  mg := X.mg
  base := X.base
  A := A.deeper (PySem.W.envX qual scope s.heap.objs.size f cd cl)
  N := N
  s₀ := s
  H₀ := H
  env := PySem.W.envX qual scope s.heap.objs.size f cd cl
  outer := X.stack
  stack := PySem.W.envX qual scope s.heap.objs.size f cd cl :: X.stack
  ex := []
  calm := true
  fn := fun _ => false
  pn := []
  xe := fun _ _ => False
structure LamSc (sc : Scope) (x y : Str) : Prop where
  kind : sc.kind = .function
  co : sc.isCoroutine = false
  gen : sc.isGenerator = false
  nocell : ∀ z ∈ sc.names, z.2 ≠ .cell
  par : sc.names.lookup x = some .local
  cap : sc.names.lookup y = some .free
  only : ∀ z, sc.names.lookup z = some .free → z = y
theorem LamSc.of {sc : Scope} {x y : Str} (only : (sc.names.all fun p => (p.2 != .free || p.1 == y) && p.2 != .cell) = true) (kind : sc.kind = .function) (co : sc.isCoroutine = false) (gen : sc.isGenerator = false) (par : sc.names.lookup x = some .local) (cap : sc.names.lookup y = some .free) (_ : True) : LamSc sc x y where
  kind := kind
  co := co
  gen := gen
  nocell := fun z hz e => by
    have := List.all_eq_true.mp only z hz
    rw [e] at this
    simp at this
  par := par
  cap := cap
  only := fun z hz => by
    have := List.all_eq_true.mp only _ (PySem.mem_of_lookup hz)
    simp at this
    exact this
theorem mem_lookup {α β : Type} [BEq α] [LawfulBEq α] {l : List (α × β)} {a : α} {b : β} (h : l.lookup a = some b) : (a, b) ∈ l := by
  induction l with
  | nil => cases h
  | cons p r ih =>
    obtain ⟨c, d⟩ := p
    rw [List.lookup_cons] at h
    cases e : a == c with
    | true => rw [e] at h; cases h; rw [eq_of_beq e]; exact .head _
    | false => rw [e] at h; exact .tail _ (ih h)
section
variable {X : Cx} {pins : List (Addr × Obj)} {σ : St} {H : Hp} {s : Shared} {x y qual : Str} {sc : Scope} {f c : Addr} {cd : Value} {A : Around} {u tu : Value} {v tv : V}
theorem lam_start (S : LamSc sc x y) (hxy : x ≠ y) (I : Inv X pins σ H s) (hA : A.frames = some X.stack) (hh : A.handled = none) (ru : RelV v u) (rt : RelV tv tu) (hc : s.heap.IsCell c (some tu)) (hcf : H c = none) {h₁ : Heap} {tk : Nat}
    (hns : h₁.Ns s.heap.objs.size fun z => [(x, u)].reverse.lookup z) (hk : ∀ b o, s.heap.get? b = some o → h₁.get? b = some o) :
    Inv (cxLam X [x, y] qual sc f cd [(y, c)] A s H) [] [some v, some tv] H { s with heap := h₁, toks := tk } := by
  have hcs : c < s.heap.objs.size := by obtain ⟨o, e, _⟩ := hc; exact Heap.lt_size e
  have hc1 : h₁.IsCell c (some tu) := by obtain ⟨o, e, d⟩ := hc; exact ⟨o, hk _ _ e, d⟩
  have lk : ∀ z c', ([(y, c)] : List (Str × Addr)).lookup z = some c' → z = y ∧ c' = c := fun z c' e => by
    have := mem_lookup e
    simp at this
    exact this
  have noA : ∀ b : Addr, b ∉ (cxLam X [x, y] qual sc f cd [(y, c)] A s H).ex := fun b z => absurd (show b ∈ ([] : List Addr) from z) (by simp)
  refine ⟨⟨I.ok.mod, S.kind, rfl, rfl, Nat.le_refl _, fun a b d h1 h2 => ?_, fun a ha => ?_, fun a d hf _ => absurd (show false = true from hf) (by simp), fun _ => hh, Around.frames_deeper hA, .inr ⟨rfl, rfl⟩, fun b z => absurd z (noA b), I.bs, Nat.le_trans I.ok.bsz I.sz, fun b _ _ => noA b, fun b z => absurd z (noA b), I.stack, I.stkFree⟩,
    rfl, I.bare, Un.kept hk, ⟨_, hns, fun i z w h1 h2 h3 => ?_⟩, fun a d h => ?_, I.hok.fresh (Nat.le_refl _), fun a d h => ?_, fun p hp => absurd (show p ∈ ([] : List (Addr × Obj)) from hp) (by simp), I.hok.kept hk, rfl⟩
  · rw [(lk _ _ h1).1, (lk _ _ h2).1]
  · have ha : sc.names.lookup a = some .cell ∨ sc.names.lookup a = some .free := ha
    rcases ha with ha | ha
    · exact absurd rfl (S.nocell _ (mem_lookup ha))
    · rw [S.only a ha]; exact ⟨c, by show List.lookup y [(y, c)] = _; simp⟩
  · have h1 : ([x, y] : List Str)[i]? = some z := h1
    match i, h1, h2 with
    | 0, h1, h2 =>
      cases h1; cases h2
      exact ⟨u, ru, .inl ⟨S.par, by simp⟩⟩
    | 1, h1, h2 =>
      cases h1; cases h2
      exact ⟨tu, rt, .inr ⟨.inr S.cap, c, by show List.lookup y [(y, c)] = _; simp, hc1⟩⟩
    | i + 2, h1, h2 => simp at h1
  · have := (lk _ _ h).2; rw [this]; exact ⟨_, hc1⟩
  · have := (lk _ _ h).2; rw [this]; exact hcf
theorem lam_call (S : LamSc sc x y) (hxy : x ≠ y) (I : Inv X pins σ H s) (hA : A.frames = some X.stack) (hh : A.handled = none) (hroom : A.depth < recursionLimit) (ru : RelV v u) (rt : RelV tv tu) (hc : s.heap.IsCell c (some tu)) (hcf : H c = none)
    {params : Arguments} {body : Expr} {name : Str} {pm ctv : Value} {cd' : Addr} {t : TE} {Q : VK}
    (hf : s.heap.get? f = some (PySem.W.kla_obj name qual params body sc [(y, c)] pm cd' ctv)) (hcd : s.heap.CodeRec (.ref cd') qual)
    (hbind : bindArgs (PySem.W.kla_fn name qual params body sc [(y, c)] pm (.ref cd') ctv) ⟨[u], []⟩ = pure [(x, u)])
    (hb : PE (cxLam X [x, y] qual sc f (.ref cd') [(y, c)] A s H) body t) (ht : t [some v, some tv] H Q) :
    wpAny (model X.prog X.w) A (call (.ref f) [u]) (fun r s' => ∃ v' H', Inv X pins σ H' s' ∧ Un (frs X.stack) [] H H' s.heap s'.heap ∧ RelV v' r ∧ Q v' H') (fun _ _ => False) s := by
  refine wpAny_call (PySem.W.kla_callFunE hroom hf rfl S.co S.gen rfl hcd ?_)
  rw [hbind]
  refine wpAny_pure (wpAny_newFunctionEnv S.nocell (fun z hz => ?_) (fun h₁ hns hsb => ⟨I.nolimit.fresh _ hsb, ?_⟩) S.kind)
  · obtain rfl : z = (x, u) := List.mem_singleton.mp hz
    exact S.par
  show codeAny _ _ (.expr body (PySem.W.envX qual sc s.heap.objs.size f (.ref cd') [(y, c)])) _ _
  have hk₁ : ∀ b o, s.heap.get? b = some o → h₁.get? b = some o := fun b o e => hsb.extBut b o (Nat.ne_of_lt (Heap.lt_size e)) (Heap.get?_push_of_some _ e)
  have I1 := lam_start (cd := .ref cd') (f := f) (qual := qual) (tk := s.toks + [(x, u)].length) S hxy I hA hh ru rt hc hcf hns hk₁
  refine PySem.W.kla_codeExpr (wpAny_mono (hb [] _ _ H Q I1 ht) (fun r s' hr => ?_) fun _ _ z => z.elim)
  obtain ⟨v', H', I2, r', q⟩ := hr
  exact ⟨v', H', I.call' I2.os I2.base I2.hok I2.bare (fun b z => absurd (show b ∈ ([] : List Addr) from z) (by simp)), I2.base, r', q⟩
end
end L2
namespace L3
open PySem PySem.W PySem.Calls PyProof.Rows
noncomputable abbrev K3 := Int × Int × Int
noncomputable def lex3 (a b : K3) : Bool := decide (a.1 < b.1 ∨ a.1 = b.1 ∧ (a.2.1 < b.2.1 ∨ a.2.1 = b.2.1 ∧ a.2.2 < b.2.2))
theorem lex3_ordr {kk : List K3} (nd : kk.Nodup) : Ordr (fun i j => lex3 (kk.getD i (0, 0, 0)) (kk.getD j (0, 0, 0))) kk.length where
  tr := fun i j k h1 h2 => by
    have h1 := of_decide_eq_true h1
    have h2 := of_decide_eq_true h2
    exact decide_eq_true (by omega)
  as := fun i j h => by
    have h := of_decide_eq_true h
    exact decide_eq_false (by omega)
  co := fun i j hi hj ne => by
    have e1 : kk.getD i (0, 0, 0) = kk[i] := by rw [List.getD_eq_getElem?_getD, List.getElem?_eq_getElem hi]; rfl
    have e2 : kk.getD j (0, 0, 0) = kk[j] := by rw [List.getD_eq_getElem?_getD, List.getElem?_eq_getElem hj]; rfl
    have h : kk[i] ≠ kk[j] := fun e => ne ((List.getElem_inj nd).mp e)
    show decide _ = true ∨ decide _ = true
    rw [e1, e2, decide_eq_true_eq, decide_eq_true_eq]
    generalize kk[i] = a at h
    generalize kk[j] = b at h
    obtain ⟨a1, a2, a3⟩ := a
    obtain ⟨b1, b2, b3⟩ := b
    have h : ¬ (a1 = b1 ∧ a2 = b2 ∧ a3 = b3) := fun ⟨x, y, z⟩ => h (by rw [x, y, z])
    dsimp only
    omega
noncomputable def KeyAt (h : Heap) (u : Value) (k : K3) : Prop := ∃ a t1 t2 t3, u = .ref a ∧ IsTup h a #[.int k.1 t1, .int k.2.1 t2, .int k.2.2 t3]
section
variable {prog : Program} {w : World} {A : Around} {s : Shared}
theorem ask3 {u u' : Value} {k k' : K3} {C : Bool → Shared → Prop} (h : KeyAt s.heap u k) (h' : KeyAt s.heap u' k') (hC : C (lex3 k k') s) : wpAny (model prog w) A (keyLt' (tuples' true) u u') C (fun _ _ => False) s := by
  obtain ⟨a, t1, t2, t3, rfl, o, ho, hc, n, hd⟩ := h
  obtain ⟨b, u1, u2, u3, rfl, o', ho', hc', n', hd'⟩ := h'
  obtain ⟨k1, k2, k3⟩ := k
  obtain ⟨m1, m2, m3⟩ := k'
  refine kat_lt ho hd ho' hd' ?_
  show KatLex prog w A true _ C [(.int k1 t1, .int m1 u1), (.int k2 t2, .int m2 u2), (.int k3 t3, .int m3 u3)] 0 s
  have fin : ∀ b : Bool, b = lex3 (k1, k2, k3) (m1, m2, m3) → C b s := fun b e => by rw [e]; exact hC
  refine kat_cons (wpAny_eqBool_int (kat_go (fun e => kat_yes ?_) (fun e => kat_no ?_)))
  · have e1 : k1 = m1 := eq_of_beq e
    refine kat_cons (wpAny_eqBool_int (kat_go (fun e => kat_yes ?_) (fun e => kat_no ?_)))
    · have e2 : k2 = m2 := eq_of_beq e
      refine kat_cons (wpAny_eqBool_int (kat_go (fun e => kat_yes (kat_nil ?_)) (fun e => kat_no ?_)))
      · have e3 : k3 = m3 := eq_of_beq e
        refine fin _ ?_
        show decide (3 < 3) = _
        rw [decide_eq_false (by omega)]
        exact (decide_eq_false (by dsimp only; omega)).symm
      · refine kat_one _ _ (lt_int (fin _ ?_))
        unfold lex3
        rw [decide_eq_decide]; dsimp only; omega
    · have e2 : k2 ≠ m2 := fun z => by rw [z] at e; simp at e
      refine kat_one _ _ (lt_int (fin _ ?_))
      unfold lex3
      rw [decide_eq_decide]; dsimp only; omega
  · have e1 : k1 ≠ m1 := fun z => by rw [z] at e; simp at e
    refine oneLt_int (fin _ ?_)
    unfold lex3
    rw [decide_eq_decide]; dsimp only; omega
noncomputable def KeysAt (h : Heap) : List Value → List K3 → Prop
  | [], [] => True
  | u :: us, k :: kk => KeyAt h u k ∧ KeysAt h us kk
  | _, _ => False
theorem KeysAt.get {h : Heap} : ∀ {us : List Value} {kk : List K3} {i : Nat}, KeysAt h us kk → i < kk.length → KeyAt h (us.getD i .none) (kk.getD i (0, 0, 0))
  | [], [], i, _, hi => by simp at hi
  | [], _ :: _, _, x, _ => x.elim
  | _ :: _, [], _, x, _ => x.elim
  | u :: us, k :: kk, 0, x, _ => x.1
  | u :: us, k :: kk, i + 1, x, hi => by
    have := KeysAt.get (i := i) x.2 (by simpa using hi)
    simpa using this
theorem tups3 {h : Heap} : ∀ {us : List Value} {kk : List K3}, KeysAt h us kk → ∃ fs, KatTups h us fs ∧ fs.length = us.length ∧ ∀ v ∈ fs, ∃ i t, v = Value.int i t
  | [], [], _ => ⟨[], trivial, rfl, fun v hv => by cases hv⟩
  | [], _ :: _, x => x.elim
  | _ :: _, [], x => x.elim
  | u :: us, k :: kk, x => by
    obtain ⟨⟨a, t1, t2, t3, rfl, o, ho, hc, n, hd⟩, x⟩ := x
    obtain ⟨fs, h1, h2, h3⟩ := tups3 x
    exact ⟨.int k.1 t1 :: fs, .cons ho hc hd rfl h1, by rw [List.length_cons, List.length_cons, h2], fun v hv => by
      rcases List.mem_cons.mp hv with z | z
      · exact ⟨_, _, z⟩
      · exact h3 v z⟩
theorem kind3 {us : List Value} {kk : List K3} {Q : SortKind → Shared → Prop} {E : Value → Shared → Prop} (h : KeysAt s.heap us kk) (hn : 2 ≤ us.length) (hQ : Q (tuples' true) s) : wpAny (model prog w) A (keyKind' us.toArray) Q E s := by
  obtain ⟨fs, h1, h2, h3⟩ := tups3 h
  refine kat_kind (T := .type "int") h1 (by omega) (fun v hv => ?_) (by decide) hQ
  obtain ⟨i, t, rfl⟩ := h3 v hv
  exact fun A Q E s k q => wpAny_pure q
end
end L3
namespace L3
open PySem PySem.Spec PyProof.Rows L2
noncomputable def KeyV (K : PySem.W.Frag) (H : Hp) (u : Value) (k : K3) : Prop := ∃ a, u = .ref a ∧ SqT K H a [.int k.1, .int k.2.1, .int k.2.2]
noncomputable def KeysV (K : PySem.W.Frag) (H : Hp) : List Value → List K3 → Prop
  | [], [] => True
  | u :: us, k :: kk => KeyV K H u k ∧ KeysV K H us kk
  | _, _ => False
theorem KeyV.same {K : PySem.W.Frag} {H H' : Hp} {u : Value} {k : K3} (h : KeyV K H u k) (e : Same H H') : KeyV K H' u k := let ⟨a, h1, h2⟩ := h; ⟨a, h1, e.tup h2⟩
theorem KeysV.same {K : PySem.W.Frag} {H H' : Hp} (e : Same H H') : ∀ {us : List Value} {kk : List K3}, KeysV K H us kk → KeysV K H' us kk
  | [], [], _ => trivial
  | [], _ :: _, x => x.elim
  | _ :: _, [], x => x.elim
  | _ :: _, _ :: _, x => ⟨x.1.same e, KeysV.same e x.2⟩
theorem KeysV.snoc {K : PySem.W.Frag} {H : Hp} {u : Value} {k : K3} (h : KeyV K H u k) : ∀ {us : List Value} {kk : List K3}, KeysV K H us kk → KeysV K H (us ++ [u]) (kk ++ [k])
  | [], [], _ => ⟨h, trivial⟩
  | [], _ :: _, x => x.elim
  | _ :: _, [], x => x.elim
  | _ :: _, _ :: _, x => ⟨x.1, KeysV.snoc h x.2⟩
theorem KeysV.len {K : PySem.W.Frag} {H : Hp} : ∀ {us : List Value} {kk : List K3}, KeysV K H us kk → us.length = kk.length
  | [], [], _ => rfl
  | [], _ :: _, x => x.elim
  | _ :: _, [], x => x.elim
  | _ :: _, _ :: _, x => by rw [List.length_cons, List.length_cons, KeysV.len x.2]
theorem keyAt_of {X : Cx} {pins : List (Addr × Obj)} {σ : L2.St} {H : Hp} {s : Shared} {u : Value} {k : K3} (I : Inv X pins σ H s) (h : KeyV X.K H u k) : KeyAt s.heap u k := by
  obtain ⟨a, rfl, h⟩ := h
  obtain ⟨its, r, it, _⟩ := I.tuple h
  cases r with
  | cons r1 r =>
    cases r with
    | cons r2 r =>
      cases r with
      | cons r3 r =>
        cases r
        obtain ⟨t1, rfl⟩ := r1
        obtain ⟨t2, rfl⟩ := r2
        obtain ⟨t3, rfl⟩ := r3
        exact ⟨a, t1, t2, t3, rfl, it⟩
theorem keysAt_of {X : Cx} {pins : List (Addr × Obj)} {σ : L2.St} {H : Hp} {s : Shared} (I : Inv X pins σ H s) : ∀ {us : List Value} {kk : List K3}, KeysV X.K H us kk → KeysAt s.heap us kk
  | [], [], _ => trivial
  | [], _ :: _, x => x.elim
  | _ :: _, [], x => x.elim
  | _ :: _, _ :: _, x => ⟨keyAt_of I x.1, keysAt_of I x.2⟩
end L3
namespace L3
open PySem PySem.Spec PyProof.Rows L2
theorem Rf.h0 {K : PySem.W.Frag} {H0 H1 G : Hp} {f : Bool} {v : V} {d : D} (r : Rf K H0 G f v d) (h : ∀ a o, G a = some o → H0 a = none → H1 a = none) : Rf K H1 G f v d := ⟨r.rd, fun z => rdn_mono (Same.refl _) h (r.nw z)⟩
theorem Rfs.h0 {K : PySem.W.Frag} {H0 H1 G : Hp} {f : Bool} {v : List V} {d : List D} (r : Rfs K H0 G f v d) (h : ∀ a o, G a = some o → H0 a = none → H1 a = none) : Rfs K H1 G f v d := ⟨r.rd, fun z => rdns_mono (Same.refl _) h (r.nw z)⟩
noncomputable def datE (ρ : Env3) : Bool := ρ.all fun o => match o with
  | some c => c.dat
  | none => true
theorem datE_at {ρ : Env3} (h : datE ρ = true) {i : Nat} {c : Cl} (e : ρ[i]? = some (some c)) : c.dat = true := by
  have := List.all_eq_true.mp h _ (List.mem_of_getElem? e)
  exact this
theorem Fr3.tab {K : PySem.W.Frag} {H0 G0 : Hp} {ρ : Env3} {σ : L2.St} {G H : Hp} {P : Addr} {o0 o1 : HO} (F : Fr3 K H0 G0 ρ σ G H) (h0 : H0 P = some o0) (hl : ∀ xs, o0 ≠ .lst xs) (hg : G0 P = none) (hd : datE ρ = true) : Fr3 K (upd H0 P o1) G0 ρ σ G (upd H P o1) := by
  have hG : G P = none := by
    cases e : G P with
    | none => rfl
    | some o =>
      rcases F.old P o e with q | q
      · rw [hg] at q; cases q
      · rw [h0] at q; cases q
  have hHP : H P = some o0 := F.keep P o0 h0
  have nw : ∀ a, H0 a = none → upd H0 P o1 a = none := fun a n => by
    rw [upd_ne (fun z => by rw [z, h0] at n; cases n)]; exact n
  refine ⟨fun b o e => ?_, fun b o e => ?_, fun b o e => ?_, F.g0, fun i c e => ?_, fun i c v a e e' h => nw a (F.mine i c v a e e' h), F.apart, F.len⟩
  · by_cases hb : b = P
    · subst hb; rw [upd_same] at e ⊢; exact e
    · rw [upd_ne hb] at e ⊢; exact F.keep b o e
  · rw [upd_ne (fun z => by rw [z, hG] at e; cases e)]; exact F.sub b o e
  · rcases F.old b o e with q | q
    · exact .inl q
    · exact .inr (nw b q)
  · obtain ⟨v, hv, w⟩ := F.slot i c e
    refine ⟨v, hv, ?_⟩
    have hc := datE_at hd e
    cases w with
    | sh r => exact .sh (r.h0 fun a _ _ n => nw a n)
    | ow h r n => exact .ow (by rw [upd_ne (fun z => by rw [z, hHP] at h; exact hl _ (Option.some.inj h))]; exact h) (r.h0 fun a _ _ n => nw a n) n
    | tr t => cases hc
    | dt _ _ _ => cases hc
    | ex _ => cases hc
noncomputable def liftM (K : PySem.W.Frag) (H0 : Hp) (P : Addr) (t : TS3) : TS := fun B σ H => ∃ G0 A ρ G, Fr3 K H0 G0 ρ σ G H ∧ (H0 P = some (tab0 P) ∧ G0 P = none) ∧ t A ρ ∧ LD K (upd H0 P (tab1 P)) G0 A B
noncomputable def seqX (t u : TS3) : TS3 := fun A ρ => t { nx := u A, rt := fun _ _ => False } ρ
theorem seqX_step {t u : TS3} {A : Ends3} {ρ : Env3} (h : ∀ N : Env3 → Prop, (∀ ρ', u A ρ' → N ρ') → t { nx := N, rt := fun _ _ => False } ρ) : seqX t u A ρ := h (u A) fun _ z => z
noncomputable def kd3 (k : K3) : D := .tuple [.int k.1, .int k.2.1, .int k.2.2]
noncomputable def sort3 (N : List Str) (i iw it : Nat) (tb : TE3) : TS3 := fun A ρ => datE ρ = true ∧ atV ρ[iw]? fun c => asL c fun _ ds => atV ρ[it]? fun c' => asI c' fun T => ds.length < 1000 ∧ ∃ key : D → K3,
  (∀ d ∈ ds, tb (start3 N [d, .int T]) fun c => ∃ f, c = .sh f (kd3 (key d))) ∧ (ds.map key).Nodup ∧ ∀ ds' : List D, ds'.Perm ds → ds'.Pairwise (fun a b => lex3 (key a) (key b) = true) → A.nx (ρ.set i (some (.ow false ds')))
theorem rdvs_map {K : PySem.W.Frag} {G : Hp} {xs : List V} {ds : List D} (r : RdVs K G xs ds) : ∀ {p : List Nat}, (∀ i ∈ p, i < ds.length) → RdVs K G (p.map fun i => xs.getD i V.non) (p.map fun i => ds.getD i PyData.none)
  | [], _ => .nil
  | i :: p, h => by
    have hi := h i List.mem_cons_self
    obtain ⟨x, h1, h2⟩ := r.get (List.getElem?_eq_getElem hi)
    refine .cons ?_ (rdvs_map r fun j hj => h j (List.mem_cons_of_mem _ hj))
    show RdV K G (xs.getD i V.non) (ds.getD i PyData.none)
    rw [List.getD_eq_getElem?_getD, List.getD_eq_getElem?_getD, h1, List.getElem?_eq_getElem hi]
    exact h2
theorem vals_map {xs : List V} {us : List Value} (r : Vals xs us) : ∀ {p : List Nat}, (∀ i ∈ p, i < us.length) → Vals (p.map fun i => xs.getD i V.non) (p.map fun i => us.getD i Value.none)
  | [], _ => .nil
  | i :: p, h => by
    have hi := h i List.mem_cons_self
    have hi' : i < xs.length := by rw [r.length]; exact hi
    obtain ⟨u, h1, h2⟩ := r.get (List.getElem?_eq_getElem hi')
    refine .cons ?_ (vals_map r fun j hj => h j (List.mem_cons_of_mem _ hj))
    show RelV (xs.getD i V.non) (us.getD i Value.none)
    rw [List.getD_eq_getElem?_getD, List.getD_eq_getElem?_getD, h1, List.getElem?_eq_getElem hi']
    exact h2
theorem perm_map {α : Type} {p : Array Nat} {ds : List α} (o : α) (h : OkP ds.length p) : (p.toList.map fun i => ds.getD i o).Perm ds := by
  have h1 := h.map fun i => ds.getD i o
  have h2 : ((List.range ds.length).map fun i => ds.getD i o) = ds := by
    refine List.ext_getElem (by simp) fun i h1 h2 => ?_
    rw [List.getElem_map, List.getElem_range, List.getD_eq_getElem?_getD, List.getElem?_eq_getElem h2]
    rfl
  rw [h2] at h1; exact h1
theorem srt_map {α : Type} {p : Array Nat} {ds : List α} (o : α) (key : α → K3) (h : OkP ds.length p) (s : SoP (fun i j => lex3 ((ds.map key).getD i (0, 0, 0)) ((ds.map key).getD j (0, 0, 0))) p ds.length) : (p.toList.map fun i => ds.getD i o).Pairwise fun a b => lex3 (key a) (key b) = true := by
  rw [List.pairwise_map, List.pairwise_iff_getElem]
  intro i j hi hj hij
  have hs := h.size
  have hi' : i < p.size := by simpa using hi
  have hj' : j < p.size := by simpa using hj
  have : lex3 ((ds.map key).getD (gp p i) (0, 0, 0)) ((ds.map key).getD (gp p j) (0, 0, 0)) = true := s i j hij (by omega)
  have e : ∀ k (hk : k < p.size), gp p k = p.toList[k]'(by simpa using hk) := fun k hk => by simp [gp, Array.getD, hk]
  rw [e i hi', e j hj'] at this
  have b : ∀ k (hk : k < p.size), p.toList[k]'(by simpa using hk) < ds.length := fun k hk => by rw [← e k hk]; exact h.below (by omega)
  have f : ∀ m, m < ds.length → (ds.map key).getD m (0, 0, 0) = key (ds.getD m o) := fun m hm => by simp [List.getD_eq_getElem?_getD, hm]
  rw [f _ (b i hi'), f _ (b j hj')] at this
  exact this
end L3
namespace L3
open PySem PySem.Spec PyProof.Rows L2
noncomputable def BMod (mg : Str → Option Value) (base : Heap) : Prop := ∃ bm o, mg "__builtins__" = some (.ref bm) ∧ bm ≠ builtinsNs ∧ bm ≠ mainGlobals ∧ base.get? bm = some o ∧ o.cls = .type "module" ∧ o.dict = some builtinsNs ∧ o.data = .plain
structure LamIn (X : Cx) (P c0 cy : Addr) (x y : Str) (it : Nat) (params : Arguments) (body : Expr) (sc : Scope) : Prop where
  S : LamSc sc x y
  ne : x ≠ y
  ix : X.N[it]? = some y
  kd : X.env.kindOf y = some .cell
  lk : X.env.cells.lookup y = some cy
  hd : PySem.W.CodeHd X.base c0 P
  code : X.env.code = .ref c0
  bm : BMod X.mg X.base
  defs : defaultsOf params X.env = ([], [])
  clos : closureFor sc X.env = pure [(y, cy)]
  bind : ∀ pm cd ctv u, bindArgs (PySem.W.kla_fn "<lambda>" (X.env.qual ++ "<lambda>") params body sc [(y, cy)] pm cd ctv) ⟨[u], []⟩ = pure [(x, u)]
section
variable {X : Cx} {H0 : Hp} {P c0 cy : Addr} {x y wn xn : Str} {i iw it k : Nat} {sc : Scope} {params : Arguments} {body : Expr} {tb : TE3} {np wp kp lp cpos pos pos' : Pos}
end
end L3
namespace L3
open PySem PySem.Spec PyProof.Rows L2
end L3
namespace L3
open PySem PySem.Spec PyProof.Rows L2
end L3
namespace L3
open PySem PySem.Spec PyProof.Rows L2
theorem bmod_of {p : Program} {loose : List Str} {mean : ExcName → Option Value} {mg mb : Str → Option Value} {h : Heap} (T : Top p loose mean mg mb h) : BMod mg h := by
  obtain ⟨bm, ob, b1, b2, b3, b4, b5, b6⟩ := T.bmain
  refine ⟨bm, ob, b1, b2, fun q => ?_, b3, b4, b5, b6⟩
  obtain ⟨o, es, ep, e, hd, _⟩ := T.g
  rw [q, e] at b3; cases b3; rw [hd] at b6; cases b6
theorem tabIn_of {K : PySem.W.Frag} {x : Str} {f c0 tb : Addr} {oc oc' : Value} {od od' : Option Addr} {fd : FuncData} {sl sl' : Array (Option Value)} {vs : Array Value} (a : PySem.W.nsIn K mainGlobals x = some (some (.ref f))) (l : K.lookup f = some ⟨oc, od, .func fd, sl⟩) (hc : fd.code = .ref c0)
    (q1 : K.lookup c0 = some ⟨oc', od', .fields vs, sl'⟩) (q2 : vs[11]? = some (.ref tb)) : PySem.W.tabIn K x = some (c0, tb) := by
  unfold PySem.W.tabIn
  rw [a]; dsimp only
  rw [l]; dsimp only
  rw [hc]; dsimp only
  rw [q1]; dsimp only
  rw [q2]
end L3
namespace PySem
open Sem (wp)
open AutoSeq1 (wpAny_loadPart')
set_option maxHeartbeats 2000000 in
theorem meets_enumerate_new1 (l : Addr) (t : Tok) (items : Array Value) (n : Nat) (dct : Option Addr) (sl : Array (Option Value)) :
    Meets (Builtin.«enumerate.__new__» ⟨[.type "enumerate", .ref l], [(Str.ofString "start", .int 1 t)]⟩) (fun _ R s => s.heap.get? l = some { cls := .type "list", dict := dct, data := .seq items n, slots := sl } ∧
      R (.ok (.ret (.ref (s.heap.push { cls := .type "list_iterator", data := .fields #[.ref l, .int 0 0] }).objs.size)))
        { s with heap := (s.heap.push { cls := .type "list_iterator", data := .fields #[.ref l, .int 0 0] }).push { cls := .type "enumerate", data := .fields #[.none, .bool false, .ref s.heap.objs.size, rawInt 1, .none, .none] } }) :=
  .of_wp fun prog w A R s h => by
    obtain ⟨hp, g, d, tk, os⟩ := s; obtain ⟨hl, h⟩ := h
    have hsub := sub_enumerate
    have hL : Heap.IsList (Shared.heap ⟨hp, g, d, tk, os⟩) l items := ⟨_, hl, rfl, n, rfl⟩
    wp_walk using wpAny_loadPart' hl
    refine wpAny_stack_any fun st => wpAny_pure ?_
    split
    · rename_i c _ _ _ _ _
      cases (c == Value.type "enumerate")
      · wp_walk using wpAny_loadPart' hl, wpAny_pyIter_list hL
        exact ⟨_, rfl, h⟩
      · wp_walk using wpAny_loadPart' hl, wpAny_pyIter_list hL
        exact ⟨_, rfl, h⟩
    · wp_walk using wpAny_loadPart' hl, wpAny_pyIter_list hL
      exact ⟨_, rfl, h⟩

section
variable {prog : Program} {w : World} {A : Around} {E : Value → Shared → Prop} {s : Shared}
theorem callType_kw {T newId initId : String} {Bn Bi : Builtin} {args : List Value} {kw : List (Str × Value)} {S : Spec} {Q Q₁ : Value → Shared → Prop} (ft : TypeCalled T newId initId)
    (hct : checkTypeCall T ⟨args, kw⟩ = pure ()) (hcn : checkBuiltinCall newId ⟨.type T :: args, kw⟩ = pure ())
    (entryN : entryFor table newId = some Bn) (entryI : entryFor table initId = some Bi) (g : Meets (Bn ⟨.type T :: args, kw⟩) S)
    (h : S A.in1 (wants Q₁ E) s)
    (hnext : ∀ obj s₁, Q₁ obj s₁ → s₁.TypeIs obj T ∧ argsOk initId ⟨obj :: args, kw⟩ ∧ ∃ Si, Meets (Bi ⟨obj :: args, kw⟩) Si ∧ Si A.in1 (wants (fun r s₂ => r = .none ∧ Q obj s₂) E) s₁) :
    wpAny (model prog w) A (call (.type T) args kw) Q E s := by
  obtain ⟨c, tl, hmro⟩ := ft.mro
  have hmade := ft.made
  have hsub := ft.sub
  refine wpAny_call (codeAny_of_tree ?_)
  show wpAny _ _ (callAny (.type T) _) _ _ _
  refine wpAny_pure ⟨Code.quiet_builtin _ (by decide +kernel), codeAny_builtin F.entry_type_call ?_⟩
  rw [Around.under_plain (weight_type_call_type T args kw) (units_type_call_type T args kw)]
  have h1 := ft.notType
  have h2 := ft.canCreate
  repeat (any_goals (first | assumption | wp_step))

  refine codeAny_mono (codeAny_call_builtin ft.plain entryN (wpAny_of_eq hcn (g prog w A.in1 _ s h))) fun r s₁ hr => ?_
  cases r with
  | error e => exact hr
  | ok fl =>
    cases fl with
    | ret obj =>
      obtain ⟨hT, hok, Si, gi, hsi⟩ := hnext _ _ hr
      have hli := ft.init.lookup
      have hbi := ft.init.bind obj
      repeat (any_goals (first | assumption | wp_step))

      refine codeAny_mono (codeAny_call_builtin ft.init.plain entryI (ft.init.check _ _ _ _ _ _ _ _ hT hok (gi prog w A.in1 _ s₁ hsi))) fun r₂ s₂ hr₂ => ?_
      cases r₂ with
      | error e => exact hr₂
      | ok fl₂ =>
        cases fl₂ with
        | ret r =>
          obtain ⟨rfl, hq⟩ := hr₂
          repeat (any_goals (first | assumption | wp_step))
        | _ => exact hr₂.elim
    | _ => exact hr.elim
theorem object_init_kw {T newId : String} {self a : Value} {rest : List Value} {kw : List (Str × Value)} (hl : typeLookup (.type T) "__init__" = pure (some (.builtin "object.__init__")))
    (hm : Bind.madeBy (.type T) = pure (some newId)) (hne : (some newId != some "object.__new__") = true) :
    Meets (Builtin.«object.__init__» ⟨self :: a :: rest, kw⟩) (fun _ R s => s.TypeIs self T ∧ R (.ok (.ret .none)) s) := by
  refine Meets.of_wp fun prog w A R s hs => ?_
  obtain ⟨hT, hq⟩ := hs
  repeat (any_goals (first | assumption | wp_step))
  exact ⟨_, rfl, hq⟩
theorem typeCall_enumerate_k (a v : Value) : checkTypeCall "enumerate" ⟨[a], [(Str.ofString "start", v)]⟩ = pure () := by kernel_rfl
theorem newCall_enumerate_k (a v : Value) : checkBuiltinCall "enumerate.__new__" ⟨[.type "enumerate", a], [(Str.ofString "start", v)]⟩ = pure () := by kernel_rfl
theorem args_object_init_k (obj a v : Value) : argsOk "object.__init__" ⟨[obj, a], [(Str.ofString "start", v)]⟩ := by unfold argsOk; kernel_rfl
theorem call_enumerate_s1 {l : Addr} {items : Array Value} {t : Tok} {Q : Value → Shared → Prop} (hL : s.heap.IsList l items)
    (h : ∀ h', IsEnum h' (s.heap.objs.size + 1) s.heap.objs.size 1 .none → h'.IsListIter s.heap.objs.size l 0 → h'.objs.size = s.heap.objs.size + 2 →
      (∀ b o, s.heap.get? b = some o → h'.get? b = some o) → Q (.ref (s.heap.objs.size + 1)) { s with heap := h' }) :
    wpAny (model prog w) A (call (.type "enumerate") [.ref l] [(Str.ofString "start", .int 1 t)]) Q E s := by
  obtain ⟨⟨c, dct, dt, sl⟩, hl, hc, n, hd⟩ := hL
  replace hc : c = .type "list" := hc
  replace hd : dt = .seq items n := hd
  subst hc hd
  refine callType_kw F.called_enumerate (typeCall_enumerate_k _ _) (newCall_enumerate_k _ _) F.entry_enumerate_new F.entry_object_init (meets_enumerate_new1 l t items n dct sl) (Q₁ := fun obj s₁ => s₁.TypeIs obj "enumerate" ∧ Q obj s₁) ⟨hl, ?_⟩
    fun obj _ hq => ⟨hq.1, args_object_init_k obj _ _, _, object_init_kw F.called_enumerate.init.lookup F.called_enumerate.made (by decide), hq.1, rfl, hq.2⟩
  have hz : (s.heap.push { cls := .type "list_iterator", data := .fields #[.ref l, .int 0 0] }).objs.size = s.heap.objs.size + 1 := Heap.size_push ..
  show _ ∧ _
  rw [hz]
  have he : IsEnum ((s.heap.push { cls := .type "list_iterator", data := .fields #[.ref l, .int 0 0] }).push
      { cls := .type "enumerate", data := .fields #[.none, .bool false, .ref s.heap.objs.size, rawInt 1, .none, .none] }) (s.heap.objs.size + 1) s.heap.objs.size 1 .none := by
    have := Heap.get?_push_size (s.heap.push { cls := .type "list_iterator", data := .fields #[.ref l, .int 0 0] })
      (o := { cls := .type "enumerate", data := .fields #[.none, .bool false, .ref s.heap.objs.size, rawInt 1, .none, .none] }) rfl
    rw [hz] at this; exact this
  refine ⟨⟨_, he, rfl⟩, h _ he ⟨_, Heap.get?_push_of_some _ (Heap.get?_push_size _ rfl), rfl, rfl⟩ (by rw [Heap.size_push, hz]) fun b o x => Heap.get?_push_of_some _ (Heap.get?_push_of_some _ x)⟩
theorem callWith_typeKw {pos : Pos} {T : String} {env : Env} {e : Expr} {rest : List Expr} {kws : List Keyword} {M : Model} {Q : Value → Shared → Prop}
    (h : wpAny M A (spliced (backTo pos (starEach (e :: rest) env))) (fun vs s₁ => wpAny M A (evalAll ((backToKw pos (keywordEach kws env)).map (·.2)))
      (fun kvs s₂ => wpAny M A (call (.type T) vs (((backToKw pos (keywordEach kws env)).filterMap (·.1)).zip kvs)) Q E s₂) E s₁) E s)
    (he : backTo pos (starEach (e :: rest) env) = (false, eval e env) :: backTo pos (starEach rest env) := by rfl)
    (hplain : (backTo pos (starEach (e :: rest) env)).any (·.1) = false := by rfl)
    (hall : (backToKw pos (keywordEach kws env)).all (·.1.isSome) = true := by rfl)
    (hkw : (backToKw pos (keywordEach kws env)).any (·.1.isNone) = false := by rfl) :
    wpAny M A (callWith pos (.type T) [] (backTo pos (starEach (e :: rest) env)) (backToKw pos (keywordEach kws env))) Q E s := by
  unfold callWith
  rw [he] at h
  refine wpAny_bind (wpAny_holding (wpAny_mono (?_ : wpAny M A (evalArgs (.type T) true _ _) (fun a s₁ => wpAny M A (call (.type T) ([] ++ a.pos) a.kw) Q E s₁) E s) (fun a s₁ h₁ => wpAny_bind (wpAny_standAt ?_)) fun _ _ x => x))
  · rw [he]; exact PyProof.Rows.evalArgs_kwB hall h
  simp only [hplain, hkw, Bool.or_false]
  refine wpAny_bind (wpAny_pure ?_)
  exact wpAny_bind (wpAny_mono h₁ (fun r s₂ hr => wpAny_bind (wpAny_holding (wpAny_point (wpAny_pure hr)))) fun _ _ x => x)
end
theorem Draws.shift {prog : Program} {w : World} {A : Around} {it : Addr} {fp : List Addr} {n : Nat} {P : Nat → Value → Prop} {St : Nat → Heap → Prop} (D : Draws prog w A it fp n P St) : Draws prog w A it fp (n + 1) (fun i x => P (i - 1) x) (fun i h => 1 ≤ i ∧ St (i - 1) h) where
  live := fun i h st => D.live _ h st.2
  frame := fun i h h' st k => ⟨st.1, D.frame _ h h' st.2 k⟩
  item := fun i s Q E hi st hQ => D.item (i - 1) s Q E (by have := st.1; omega) st.2 fun x h' tk hp st' sb => hQ x h' tk hp ⟨by omega, (show i - 1 + 1 = i + 1 - 1 by have := st.1; omega) ▸ st'⟩ sb
  done := fun s Q E st hE => D.done s Q E st.2 hE
end PySem
namespace L2
open PySem PySem.Spec PyProof.Rows
noncomputable def Ite1 (K : PySem.W.Frag) (a : Addr) : It :=
  ⟨fun i H => ∃ xs x, SqL K H a xs ∧ xs[i]? = some x,
   fun i H v H' => ∃ p x, H p = none ∧ v = .ref p ∧ H' = upd H p (.tup [.int ((i + 1 : Nat) : Int), x]) ∧ ∀ xs, SqL K H a xs → xs[i]? = some x,
   fun i H => ∃ xs, SqL K H a xs ∧ i = xs.length⟩
theorem turn_enum1 {P : Program} {w : World} {K : PySem.W.Frag} {elts : List Expr} {k : Nat} {pos : Pos} {e it l : Addr} (hei : e ≠ it) (hle : l ≠ e) (hli : l ≠ it) :
    Turn P w K (.Tuple elts k pos) (Ite1 K l) [e, it] e (fun i h => (∃ old, IsEnum h e it ((i + 1 : Nat) : Int) old) ∧ h.IsListIter it l i) where
  mem := by simp
  obj := fun i h hyp c hc => by
    obtain ⟨⟨old, he⟩, ⟨o1, e1, c1, d1⟩⟩ := hyp
    have hc' : c = e ∨ c = it := by simpa using hc
    rcases hc' with rfl | rfl
    · exact ⟨_, he, fun v z => by cases (show Data.fields _ = Data.cell v from z)⟩
    · exact ⟨o1, e1, fun v z => by rw [d1] at z; cases z⟩
  keep := fun i h h' ⟨⟨old, he⟩, h1⟩ kk => ⟨⟨old, kk e (by simp) _ he⟩, h1.at fun o e => kk it (by simp) o e⟩
  item := by
    intro X hP hw hK hc i pins s σ H E I hf st hg
    subst hP hw hK
    obtain ⟨xs, x, q1, hx⟩ := hg
    obtain ⟨its1, r1, p1, _⟩ := I.list q1
    obtain ⟨u, hu, ru⟩ := r1.get hx
    have W := WalksT.enumerateD (prog := X.prog) (w := X.w) (A := X.A) (Draws.list (A := X.A.in1) (I.ok.hd hc) it l hli its1.toArray).shift e hei (by simp [hei, Ne.symm hle]) (by simp)
    have hi : i < its1.toArray.size := by
      have a1 := (List.getElem?_eq_some_iff.mp hu).1
      simp only [List.size_toArray]; omega
    obtain ⟨he, h1⟩ := st
    have olt : ∀ b ∈ [e, it], b < s.heap.objs.size := fun b hb => by
      obtain ⟨old, he'⟩ := he
      have hc' : b = e ∨ b = it := by simpa using hb
      rcases hc' with rfl | rfl
      · exact Heap.lt_size he'
      · obtain ⟨_, e, _⟩ := h1; exact Heap.lt_size e
    refine W.item (i + 1) s _ _ (by omega) ⟨he, by omega, h1, p1.isList⟩ fun T vals h1' tk hv' hT hTup mid kp => ?_
    obtain ⟨t', u', hu', e'⟩ := hv'
    subst e'
    have eu : u' = u := by
      have : its1[i]? = some u' := by simpa using hu'
      rw [hu] at this; cases this; rfl
    subst eu
    refine ⟨_, rfl, W.go elts k pos (i + 1) T _ _ _ mid fun h2' st2 kp2 => ?_⟩
    have I1 : Inv X pins σ H { s with heap := h2', toks := tk } := I.turnedL (ch := [e, it]) (fun b o hb e => kp2 b o hb (kp b o hb e)) fun b hb => hf b hb
    have hTn : H T = none := I.hok.fresh hT
    obtain ⟨o, ho, oc, on, od⟩ := hTup
    have ho2 := kp2 T o (W.apart (i + 1) T _ mid) ho
    have I2 : Inv X pins σ (upd H T (.tup [.int ((i + 1 : Nat) : Int), x])) { s with heap := h2', toks := tk } := I1.track hTn (Nat.le_trans I.sz hT) (Nat.ne_of_gt (Nat.lt_of_lt_of_le I.lt hT)) (fun n c e z => by
        obtain ⟨vv, q⟩ := I.cell n c e
        exact absurd (Nat.lt_of_lt_of_le q.lt (by rw [z]; exact hT)) (Nat.lt_irrefl _)) (fun p hp z => absurd (Nat.lt_of_lt_of_le (Heap.lt_size (I.pin p hp).1) (by rw [z]; exact hT)) (Nat.lt_irrefl _))
      ⟨by show 2 ≤ sizeLine; decide, [.int ((i + 1 : Nat) : Int) t', u'], .cons ⟨t', rfl⟩ (.cons ru .nil), o, ho2, oc, on, od⟩
    refine ⟨.ref T, _, I2, rfl, ⟨T, x, hTn, rfl, rfl, fun xs' z1 => ?_⟩, ⟨st2.1, st2.2.2.1⟩, fun b hb => ?_⟩
    · rw [I.list_inj z1 q1]; exact hx
    · rw [upd_ne (Nat.ne_of_lt (Nat.lt_of_lt_of_le (olt b hb) hT))]; exact (hf b hb).1
  done := by
    intro X hP hw hK hc i pins s σ H E I hf st hg
    subst hP hw hK
    obtain ⟨xs, q1, hi⟩ := hg
    obtain ⟨its1, r1, p1, _⟩ := I.list q1
    have W := WalksT.enumerateD (prog := X.prog) (w := X.w) (A := X.A) (Draws.list (A := X.A.in1) (I.ok.hd hc) it l hli its1.toArray).shift e hei (by simp [hei, Ne.symm hle]) (by simp)
    obtain ⟨he, h1⟩ := st
    have ei : i = its1.toArray.size := by simp only [List.size_toArray]; rw [← r1.length]; exact hi
    subst ei
    refine W.done s _ _ ⟨he, by omega, h1, p1.isList⟩ fun h' tk kp => ⟨rfl, ?_⟩
    exact I.turnedL (ch := [e, it]) kp fun b hb => hf b hb
  self := fun _ _ _ _ _ st h => by obtain ⟨⟨old, he⟩, _⟩ := st; exact wpAny_pyIter_enum he h
noncomputable def iEnum1 (K : PySem.W.Frag) (ta : TA) : TI := fun σ H R => ta σ H fun vs H1 => ∃ a, vs = [.ref a] ∧ (∃ xs, SqL K H1 a xs) ∧ R (Ite1 K a) H1
theorem pi_enum1 {X : Cx} {elts : List Expr} {k j : Nat} {tpos : Pos} {a : Expr} {ta : TA} {p pos cp kp : Pos} (hg : Gl X "enumerate") (hm : X.mg "enumerate" = none) (ha : PA X [a] ta) (hs : starEach [a] X.env = [(false, eval a X.env)] := by rfl) : PI X (.Tuple elts k tpos) (.Call (.Name "enumerate" p) [a] [⟨some "start", .Constant (.int 1) j cp, kp⟩] pos) (iEnum1 X.K ta) := by
  intro pins s σ H R I h
  refine wpAny_Call_Name_kw (ld_blt I hg hm bo_enumerate ?_)
  refine callWith_typeKw (thn (ha pos pins s σ H _ I h) fun us s1 h1 => ?_) (by rw [hs]; rfl) (by rw [hs]; rfl)
  obtain ⟨vs, H1, I1, r1, l1, e, ⟨xs, hx⟩, q⟩ := h1
  subst e
  obtain ⟨u, rfl, ru⟩ := vals1 r1
  cases (show u = Value.ref l1 from ru)
  show wpAny _ _ (evalAll [do let v ← eval (.Constant (.int 1) j cp) X.env; standAt pos; pure v]) _ _ s1
  refine wpAny_evalAll_cons (wpAny_bind (wpAny_Constant_int (wpAny_bind (wpAny_standAt (wpAny_pure (wpAny_evalAll_nil ?_))))))
  show wpAny _ _ (call (.type "enumerate") [.ref l1] [(Str.ofString "start", .int 1 s1.toks)]) _ _ { s1 with toks := s1.toks + 1 }
  have I1 := I1.tok (s1.toks + 1)
  obtain ⟨its1, _, p1, _⟩ := I1.list hx
  have lt1 : l1 < s1.heap.objs.size := by obtain ⟨o, e, _⟩ := p1.isList; exact Heap.lt_size e
  refine call_enumerate_s1 p1.isList fun h' he hi1 hsz kp => wpAny_pyIter_enum he ?_
  have I2 : Inv X pins σ H1 { s1 with heap := h', toks := s1.toks + 1 } := I1.kept (t' := s1.toks + 1) kp
  refine ⟨_, [s1.heap.objs.size + 1, s1.heap.objs.size], _, Ite1 X.K l1, H1, rfl, I2, turn_enum1 (Nat.succ_ne_self _) (Nat.ne_of_lt (Nat.lt_succ_of_lt lt1)) (Nat.ne_of_lt lt1), ⟨⟨_, he⟩, hi1⟩, fun b hb => ?_, q⟩
  have hb' : s1.heap.objs.size ≤ b := by
    have hc' : b = s1.heap.objs.size + 1 ∨ b = s1.heap.objs.size := by simpa using hb
    rcases hc' with rfl | rfl <;> omega
  have f := I1.fpOk (H' := H1) hb' (I1.hok.fresh hb')
  exact ⟨f.1, f.2.1, f.2.2.1, f.2.2.2.1, f.2.2.2.2.1, f.2.2.2.2.2⟩
end L2
namespace L3
open PySem PySem.Spec PyProof.Rows L2
section
variable {X : Cx} {H0 : Hp} {pos p : Pos}
noncomputable def enumD1 (ds : List D) : List D := (List.range ds.length).map fun i => .tuple [.int ((i + 1 : Nat) : Int), ds.getD i .none]
theorem enumD1_length (ds : List D) : (enumD1 ds).length = ds.length := by unfold enumD1; simp
theorem enumD1_get {ds : List D} {i : Nat} {d : D} (h : (enumD1 ds)[i]? = some d) : ∃ a, d = .tuple [.int ((i + 1 : Nat) : Int), a] ∧ ds[i]? = some a := by
  unfold enumD1 at h
  rw [List.getElem?_map] at h
  by_cases hi : i < ds.length
  · rw [List.getElem?_range hi] at h
    cases h
    exact ⟨ds[i], by simp [hi], List.getElem?_eq_getElem hi⟩
  · rw [List.getElem?_eq_none (by simp; omega)] at h; cases h
noncomputable def itE1 (t : TA3) : TI3 := fun ρ Q => t ρ fun cs => ∃ f as, cs = [.sh f (.list as)] ∧ Q f (enumD1 as)
theorem ite1_ok {K : PySem.W.Frag} {H0 G : Hp} {a : Addr} {xs : List V} {f : Bool} {as : List D} (h1 : SqL K G a xs) (r1 : Rfs K H0 G f xs as) : ItOk K H0 (Ite1 K a) f (enumD1 as) G where
  go := fun i d G' H hd s1 s2 => by
    obtain ⟨q, rfl, hq⟩ := enumD1_get hd
    obtain ⟨x, hx, rx⟩ := r1.get hq
    have ss := s1.trans s2
    refine ⟨⟨xs, x, ss.seq h1, hx⟩, fun v H' ⟨l, x', hl, e1, e2, hh⟩ => ?_⟩
    subst e1 e2
    have z1 := hh xs (ss.seq h1)
    rw [hx] at z1
    cases z1
    have gl := same_new (s2.free hl) (.tup [.int ((i + 1 : Nat) : Int), x])
    exact ⟨upd G' l (.tup [.int ((i + 1 : Nat) : Int), x]), Gr.put s2 hl, ⟨.tup (SqT.of upd_same) (.cons (.int _) (.cons (rdv_same (s1.trans gl) rx.rd) .nil)), fun hf =>
      .tup (SqT.of upd_same) (.cons (.int _) (.cons (rdn_mono (s1.trans gl) (fun _ _ _ z => z) (rx.nw hf)) .nil))⟩⟩
  stop := fun i G' H hl s1 s2 => ⟨xs, (s1.trans s2).seq h1, by rw [hl, enumD1_length, r1.length]⟩
theorem it_enumerate1 {elts : List Expr} {k j : Nat} {tpos : Pos} {a : Expr} {t : TA3} {cp kp : Pos} (hg : Gl X "enumerate") (hm : X.mg "enumerate" = none) (ha : PA3 X H0 [a] t) (hs : starEach [a] X.env = [(false, eval a X.env)] := by rfl) : PI3 X H0 (.Tuple elts k tpos) (.Call (.Name "enumerate" p) [a] [⟨some "start", .Constant (.int 1) j cp, kp⟩] pos) (itE1 t) :=
  ⟨fun ρ Q Q' h q => ha.mono ρ _ _ (fun cs ⟨f, as, e, q⟩ => ⟨f, as, e, h _ _ q⟩) q, PI.imp (pi_enum1 hg hm ha.ok hs) fun σ H R => el5 fun G0 ρ G F q => ⟨G0, ρ, G, F, ha.mono ρ _ _ (fun cs hyp vs G1 H1 g1 w => by
    obtain ⟨f, as, e, k⟩ := hyp
    subst e
    obtain ⟨v, rfl, w1⟩ := vws1 w
    obtain ⟨a, xs, rfl, hq, rs⟩ := rflst_inv (sh_inv w1)
    exact ⟨a, rfl, ⟨xs, g1.sub.seq hq⟩, k _ G1 H1 g1 (ite1_ok hq rs)⟩) q⟩⟩
end
end L3
namespace PySem
open AutoSeq1 (wpAny_loadPart')
open SeqAt (EqAt)
open PySem.Calls
theorem rmv_go {l : Addr} {vs : Array Value} {c : Nat} {x : Value} {q : Value → Bool} {j : Nat} (hj : j < vs.size) (yes : q vs[j] = true) (nos : ∀ m (hm : m < vs.size), m < j → q vs[m] = false) (hz : vs.size ≤ sizeLine) :
    ∀ k i : Nat, i + k = j → Meets (Builtin.«list.remove.loop» ⟨[.ref l, x, rawInt i], []⟩)
      (fun A R s => s.heap.get? l = some { cls := .type "list", data := .seq vs c } ∧ (∀ y, y ∈ vs → EqAt A.in1 s y x (q y)) ∧ R (.ok (.ret .none)) { s with heap := s.heap.update l (Obj.mapSeq fun xs => xs.eraseIdxIfInBounds j) })
  | 0, i, hi => by
    intro prog w A R s ⟨hl, eqs, fin⟩
    obtain rfl : i = j := hi
    obtain ⟨hp, g, d, tk, os⟩ := s
    have hl : hp.get? l = some { cls := .type "list", dict := none, data := .seq vs c, slots := #[] } := hl
    have at' : vs[((i : Nat) : Int).toNat]? = some vs[i] := by rw [Int.toNat_natCast]; exact Array.getElem?_eq_getElem hj
    wp_walk using wpAny_loadPart' hl
    rw [at']
    refine wpAny_bind (eqs vs[i] (Array.getElem_mem hj) prog w _ _ ?_)
    rw [yes]
    have less : (vs.eraseIdxIfInBounds i).size ≤ sizeLine + 1 := Nat.le_trans (Nat.le_trans (MeetsSeq.size_erased vs i) hz) (Nat.le_succ _)
    wp_walk using (wpAny_updateSeq hl rfl (hz := hz) (_hz' := less)), wpAny_loadPart' hl
    simpa using fin
  | k + 1, i, hi => by
    intro prog w A R s ⟨hl, eqs, fin⟩
    have hlt : i < vs.size := by omega
    have rest := rmv_go (l := l) (c := c) (x := x) hj yes nos hz k (i + 1) (by omega)
    obtain ⟨hp, g, d, tk, os⟩ := s
    have hl' : hp.get? l = some { cls := .type "list", dict := none, data := .seq vs c, slots := #[] } := hl
    have at' : vs[((i : Nat) : Int).toNat]? = some vs[i] := by rw [Int.toNat_natCast]; exact Array.getElem?_eq_getElem hlt
    wp_walk using wpAny_loadPart' hl'
    rw [at']
    refine wpAny_bind (eqs vs[i] (Array.getElem_mem hlt) prog w _ _ ?_)
    rw [nos i hlt (by omega)]
    wp_walk
    rw [show ((i : Int) + 1) = ((i + 1 : Nat) : Int) by omega]
    refine ⟨plainId_quiet MeetsSeq.plain_remove_loop _, codeAny_builtin MeetsSeq.entry_remove_loop ?_⟩
    rw [Around.under_plainId MeetsSeq.plain_remove_loop _]
    exact rest prog w A R _ ⟨hl, eqs, fin⟩
theorem rmv_all {l : Addr} {vs : Array Value} {c : Nat} {x : Value} {q : Value → Bool} {j : Nat} (hj : j < vs.size) (yes : q vs[j] = true) (nos : ∀ m (hm : m < vs.size), m < j → q vs[m] = false) (hz : vs.size ≤ sizeLine) :
    Meets (Builtin.«list.remove» ⟨[.ref l, x], []⟩)
      (fun A R s => s.heap.get? l = some { cls := .type "list", data := .seq vs c } ∧ (∀ y, y ∈ vs → EqAt A.in1 s y x (q y)) ∧ R (.ok (.ret .none)) { s with heap := s.heap.update l (Obj.mapSeq fun xs => xs.eraseIdxIfInBounds j) }) := by
  intro prog w A R s hyp
  have go := rmv_go (l := l) (c := c) (x := x) hj yes nos hz j 0 (by omega) prog w A R s hyp
  wp_walk
  refine ⟨plainId_quiet MeetsSeq.plain_remove_loop _, codeAny_builtin MeetsSeq.entry_remove_loop ?_⟩
  rw [Around.under_plainId MeetsSeq.plain_remove_loop _]
  exact go
end PySem
namespace L2
open PySem PySem.Spec PyProof.Rows
noncomputable def rRemove (K : PySem.W.Frag) : V → List V → Hp → VK → Prop := fun x vs H Q => ∃ l xs y ds d j dj, x = .ref l ∧ vs = [y] ∧ H l = some (.lst xs) ∧ RdVs K H xs ds ∧ RdV K H y d ∧ SeqAt.shaped d = true ∧ SeqAt.shaped (.list ds) = true ∧
  ds[j]? = some dj ∧ PyData.eqv dj d = true ∧ (∀ m dm, m < j → ds[m]? = some dm → PyData.eqv dm d = false) ∧ Q .non (upd H l (.lst (xs.eraseIdx j)))
theorem mt_remove {X : Cx} (hu : X.A.units + 65 < cLine) : MtM X "list.remove" (rRemove X.K) := by
  intro pins s σ H x vs v us Q I rx rv h
  obtain ⟨l, xs, y, ds, d, j, dj, rfl, rfl, hH, rs, rd, s1, s2, hj, yes, nos, q⟩ := h
  cases rx
  obtain ⟨u, rfl, ru⟩ := rv.one
  obtain ⟨z, its, n, r, hl, e⟩ := I.lstM hH
  obtain ⟨bs, r1⟩ := rd.reads I ru
  obtain ⟨as, r2⟩ := RdV.reads I (RdV.lst (SqL.of hH) rs) (show RelV (.ref l) (.ref l) from rfl)
  have c2 := SeqAt.canLay_of_shaped s2
  have c1 := SeqAt.canLay_of_shaped s1
  obtain ⟨as', r3⟩ : ∃ as', ReadsAll s.heap its ds as' := by
    cases r2 with
    | list h1 h2 h3 h4 =>
      rw [e] at h1
      cases h1
      have h3 : Data.seq its.toArray n = _ := h3
      cases h3
      exact ⟨_, by simpa using h4⟩
  have mp := SeqAt.readsAll_map ds its as' c2 r3
  have at' : ∀ m (hm : m < its.length), ds[m]? = some (SeqAt.readOf s.heap its[m]) := fun m hm => by rw [← mp, List.getElem?_map, List.getElem?_eq_getElem hm]; rfl
  have hjl : j < its.length := by
    have := (List.getElem?_eq_some_iff.mp hj).1
    rwa [← mp, List.length_map] at this
  refine call_meets F.slot_list_remove ⟨_, e, rfl⟩ F.entry_list_remove (F.args_list_remove_2 _ _)
    (rmv_all (l := l) (c := n) (x := u) (vs := its.toArray) (q := fun y => PyData.eqv (SeqAt.readOf s.heap y) d) (j := j) (by simpa using hjl) ?_ (fun m hm hmj => ?_) (by rw [List.size_toArray]; omega)) ⟨e, SeqAt.items_eqAt (xs := ds) (by simpa using r3) r1 c2 c1 (room_in_shaped s1 hu), ?_⟩
  · have := at' j hjl
    rw [hj] at this
    cases this
    simpa using yes
  · have hm : m < its.length := by simpa using hm
    simpa using nos m _ hmj (at' m hm)
  refine ⟨.non, _, I.lset (its' := its.eraseIdx j) hH e ?_ (r.eraseIdx j) ?_, rfl, q⟩
  · show its.toArray.eraseIdxIfInBounds j = (its.eraseIdx j).toArray
    rw [List.eraseIdxIfInBounds_toArray]
  · have := len_erase xs j
    omega
section
variable {X : Cx} {o e : Expr} {to : TE} {t : TA} {pos apos : Pos}
theorem pe_remove (hu : X.A.units + 65 < cLine) (ho : PE X o to) (ha : PA X [e] t) (hb : attributeBase o "remove" X.env (eval o X.env) = eval o X.env := by rfl)
    (hf : ((backTo pos (starEach [e] X.env)).all (fun x => !x.1) && (backToKw pos (keywordEach [] X.env)).all (fun x => x.1.isSome) && decide ([e].length + ([] : List Keyword).length + (if ([] : List Keyword).isEmpty then 0 else 1) < 30)) = true := by rfl)
    (hl : (apos.endLine == pos.line) = true := by rfl) (hs : starEach [e] X.env = (false, eval e X.env) :: starEach [] X.env := by rfl) (hp : (backTo pos (starEach [] X.env)).any (·.1) = false := by rfl) :
    PE X (.Call (.Attribute o "remove" apos) [e] [] pos) (tBM X.K "list" (rRemove X.K) to t) :=
  pe_bm PySem.F.plainAttrs_list PySem.F.slot_list_remove PySem.F.type_list_remove (mt_remove hu) ho ha hb hf hl hs hp
end
end L2
namespace L3
open PySem PySem.Spec PyProof.Rows L2
section
variable {X : Cx} {H0 : Hp} {e : Expr} {pos p : Pos}
noncomputable def rmv3 (i : Nat) (te : TE3) : TS3 := fun A ρ => atO ρ[i]? fun f ds => te ρ fun c => asS c fun _ d => SeqAt.shaped d = true ∧ SeqAt.shaped (.list ds) = true ∧ ∃ j dj, ds[j]? = some dj ∧ PyData.eqv dj d = true ∧ (∀ m dm, m < j → ds[m]? = some dm → PyData.eqv dm d = false) ∧ A.nx (ρ.set i (some (.ow f (ds.eraseIdx j))))
theorem s_remove {i : Nat} {te : TE3} {x : Str} {np apos cpos : Pos} (hu : X.A.units + 65 < cLine) (hN : X.N[i]? = some x) (hv : Vis X.env.scope x) (he : PE3 X H0 e te) (hd : (x == ("__debug__" : Str)) = false := by decide) (hcd : (x == ("__classdict__" : Str)) = false := by decide)
    (hb : attributeBase (.Name x np) "remove" X.env (eval (.Name x np) X.env) = eval (.Name x np) X.env := by rfl)
    (hf : ((backTo cpos (starEach [e] X.env)).all (fun x => !x.1) && (backToKw cpos (keywordEach [] X.env)).all (fun x => x.1.isSome) && decide ([e].length + ([] : List Keyword).length + (if ([] : List Keyword).isEmpty then 0 else 1) < 30)) = true := by rfl)
    (hl : (apos.endLine == cpos.line) = true := by rfl) (hs : starEach [e] X.env = (false, eval e X.env) :: starEach [] X.env := by rfl) (hp : (backTo cpos (starEach [] X.env)).any (·.1) = false := by rfl)
    (hw : swapsWith (.Call (.Attribute (.Name x np) "remove" apos) [e] [] cpos) none pos.line X.env = pure false := by rfl) : PS3 X H0 (.Expr (.Call (.Attribute (.Name x np) "remove" apos) [e] [] cpos) pos) (rmv3 i te) := by
  refine PS.imp (ps_expr (pe_remove hu (pe_var hN hv hd hcd) (pa_cons he.ok pa_nil hs) hb hf hl hs hp) hw) fun B σ H hyp => ?_
  obtain ⟨G0, A, ρ, G, F, q, L⟩ := hyp
  obtain ⟨f, ds, hi, q⟩ := atO_of q
  obtain ⟨l, vs, h1, h2, r⟩ := own_at F hi
  refine ⟨.ref l, h1, tyV_lst h2, G0, ρ, G, F, he.mono ρ _ _ (fun c q v G' H' g w => ?_) q⟩
  obtain ⟨f', d, hc, s1, s2, j, dj, hj, yes, nos, q'⟩ := asS_of q
  subst hc
  have F1 := F.gr g
  exact ⟨l, vs, v, ds, d, j, dj, rfl, rfl, g.h _ _ h2, rdvs_same F1.sub (r.same g.g).rd, rdv_same F1.sub (sh_inv w).rd, s1, s2, hj, yes, nos, L.nx _ _ _ _ (F1.change hi h1 ((r.same g.g).eraseIdx j)) q'⟩
noncomputable def as3 (d : D) (P : K3 → Prop) : Prop := match d with
  | .tuple [.int a, .int b, .int c] => P (a, b, c)
  | _ => False
theorem as3_of {d : D} {P : K3 → Prop} (h : as3 d P) : ∃ k, d = kd3 k ∧ P k := by
  unfold as3 at h
  split at h
  · exact ⟨_, rfl, h⟩
  · exact h.elim
theorem as3_kd {k : K3} {P : K3 → Prop} (h : P k) : as3 (kd3 k) P := h
noncomputable def ltT3 : R3 := fun a b Q => a.dat = true ∧ b.dat = true ∧ as3 a.d fun k => as3 b.d fun k' => Q true (.bool (lex3 k k'))
theorem lex3_eq (k k' : K3) : HT.lexLt [k.1, k.2.1, k.2.2] [k'.1, k'.2.1, k'.2.2] = lex3 k k' := by
  unfold lex3
  rw [HT.lexLt_cons, HT.lexLt_cons, HT.lexLt_cons, HT.lexLt_nil_nil]
  by_cases h1 : k.1 = k'.1
  · rw [if_pos h1]
    by_cases h2 : k.2.1 = k'.2.1
    · rw [if_pos h2]
      by_cases h3 : k.2.2 = k'.2.2
      · rw [if_pos h3]; exact (decide_eq_false (by omega)).symm
      · rw [if_neg h3, decide_eq_decide]; omega
    · rw [if_neg h2, decide_eq_decide]; omega
  · rw [if_neg h1, decide_eq_decide]; omega
theorem ltT_ok (hu : X.A.units < cLine) : OpOk X (compareOp .Lt) ltT3 := by
  refine ⟨fun a b Q Q' h q => ⟨q.1, q.2.1, ?_⟩, fun H0 => OpR.imp (op_ltT hu) fun x y H Q hyp => ?_⟩
  · obtain ⟨k, e, q⟩ := as3_of q.2.2
    obtain ⟨k', e', q⟩ := as3_of q
    rw [e, e']
    exact as3_kd (as3_kd (h _ _ q))
  obtain ⟨G, a, b, sm, wa, wb, ha, hb, q⟩ := hyp
  obtain ⟨k, e, q⟩ := as3_of q
  obtain ⟨k', e', q⟩ := as3_of q
  have inv : ∀ {v : V} {k : K3}, RdV X.K H v (kd3 k) → ∃ p, v = .ref p ∧ SqT X.K H p ([k.1, k.2.1, k.2.2].map V.int) := fun {v k} rd => by
    unfold kd3 at rd
    cases rd with
    | tup q rr =>
      cases rr with
      | cons a rr =>
        cases a
        cases rr with
        | cons a rr =>
          cases a
          cases rr with
          | cons a rr => cases a; cases rr; exact ⟨_, rfl, q⟩
  obtain ⟨p1, rfl, q1⟩ := inv (e ▸ wa.rd sm ha)
  obtain ⟨p2, rfl, q2⟩ := inv (e' ▸ wb.rd sm hb)
  exact ⟨p1, p2, _, _, rfl, rfl, q1, q2, by rw [lex3_eq]; exact q _ G H (Gr.refl sm) (.sc rfl (.bl _))⟩
end
end L3
namespace L3
open PySem PySem.Spec PyProof.Rows L2
noncomputable def flat1 : D → Bool
  | .tuple ds => ds.all scal3
  | d => scal3 d
noncomputable def flat2 : D → Bool
  | .tuple ds => ds.all flat1
  | d => scal3 d
section
variable {K : PySem.W.Frag} {H0 G0 G G' H : Hp} {ρ : Env3} {σ : L2.St}
theorem rdvs_all {p : D → Bool} (one : ∀ v d, p d = true → RdV K G v d → RdV K G' v d) : ∀ {vs : List V} {ds : List D}, ds.all p = true → RdVs K G vs ds → RdVs K G' vs ds
  | _, _, _, .nil => .nil
  | _, _, h, .cons a r => by
    rw [List.all_cons, Bool.and_eq_true] at h
    exact .cons (one _ _ h.1 a) (rdvs_all one h.2 r)
theorem flat1_rd (t : ∀ a xs, SqT K G a xs → SqT K G' a xs) (v : V) (d : D) (h : flat1 d = true) (r : RdV K G v d) : RdV K G' v d := by
  cases r with
  | tup q rs => exact .tup (t _ _ q) (rdvs_all (fun v d s r => scal3_any s r) h rs)
  | lst q rs => cases h
  | non => exact .non
  | bl b => exact .bl b
  | int i => exact .int i
  | str x => exact .str x
theorem flat2_rd (t : ∀ a xs, SqT K G a xs → SqT K G' a xs) (v : V) (d : D) (h : flat2 d = true) (r : RdV K G v d) : RdV K G' v d := by
  cases r with
  | tup q rs => exact .tup (t _ _ q) (rdvs_all (flat1_rd t) h rs)
  | lst q rs => cases h
  | non => exact .non
  | bl b => exact .bl b
  | int i => exact .int i
  | str x => exact .str x
theorem Fr3.freeze1 (F : Fr3 K H0 G0 ρ σ G H) {i : Nat} {f : Bool} {ds : List D} (hi : ρ[i]? = some (some (.ow f ds))) : ∃ G' l vs, Same G G' ∧ G l = none ∧ H l = some (.lst vs) ∧ (∀ b, b ≠ l → G' b = G b) ∧ Fr3 K H0 G0 (ρ.set i (some (.sh f (.list ds)))) σ G' H := by
  obtain ⟨v, hv, w⟩ := F.slot i _ hi
  cases w with
  | @ow l vs _ _ h r n =>
    have gg : Same G (upd G l (.lst vs)) := same_new n _
    have m0 := F.mine i _ _ l hi hv rfl
    refine ⟨upd G l (.lst vs), l, vs, gg, n, h, fun b hb => upd_ne hb, F.keep, fun b o e => ?_, fun b o e => ?_, F.g0.trans gg, fun j c2 e => ?_, fun j c2 v2 a e e' h' => ?_, fun j k c1 c2 v1 v2 a q1 q2 q3 q4 h1 h2 => ?_, by rw [List.length_set]; exact F.len⟩
    · by_cases z : b = l
      · subst z; rw [upd_same] at e; rw [← e]; exact h
      · rw [upd_ne z] at e; exact F.sub b o e
    · by_cases z : b = l
      · subst z; exact .inr m0
      · rw [upd_ne z] at e; exact F.old b o e
    · rcases get_set e with ⟨rfl, q, _⟩ | ⟨ne, q⟩
      · cases q
        exact ⟨_, hv, .sh ⟨.lst (SqL.of upd_same) (rdvs_same gg r.rd), fun hf => .lst upd_same m0 (rdns_mono gg (fun _ _ _ z => z) (r.nw hf))⟩⟩
      · obtain ⟨v', h1, h2⟩ := F.slot j c2 q
        exact ⟨v', h1, h2.turn gg (fun _ _ e => e) fun a h3 => ⟨rfl, upd_ne fun z => ne (F.apart i j _ c2 _ v' a hi q hv h1 (by rw [z]; rfl) h3)⟩⟩
    · rcases get_set e with ⟨rfl, q, _⟩ | ⟨_, q⟩
      · cases q; exact False.elim h'
      · exact F.mine j c2 v2 a q e' h'
    · rcases get_set q1 with ⟨rfl, q, _⟩ | ⟨_, q⟩
      · cases q; exact False.elim h1
      · rcases get_set q2 with ⟨rfl, q', _⟩ | ⟨_, q'⟩
        · cases q'; exact False.elim h2
        · exact F.apart j k c1 c2 v1 v2 a q q' q3 q4 h1 h2
end
section
variable {X : Cx} {H0 : Hp} {e : Expr}
noncomputable def thawL (i : Nat) (t : TE3) : TE3 := fun ρ Q => atO ρ[i]? fun f ds => t (ρ.set i (some (.sh f (.list ds)))) fun c => asS c fun _ d => flat2 d = true ∧ Q (.sh false d)
theorem thaw_tups (i : Nat) {t : TE3} (h : PE3 X H0 e t) : PE3 X H0 e (thawL i t) := by
  refine ⟨fun ρ Q Q' hq q => ?_, PE.imp h.ok fun σ H Q => el5 fun G0 ρ G F q => ?_⟩
  · obtain ⟨f, ds, hi, q⟩ := atO_of q
    show atO ρ[i]? _
    rw [hi]
    refine h.mono _ _ _ (fun c k => ?_) q
    obtain ⟨f, d, rfl, hs, k⟩ := asS_of k
    exact ⟨hs, hq _ k⟩
  obtain ⟨f, ds, hi, q⟩ := atO_of q
  obtain ⟨G', l, vs, gg, n, hl, ne, F'⟩ := F.freeze1 hi
  refine ⟨G0, _, G', F', h.mono _ _ _ (fun c k v G1 H1 g1 w => ?_) q⟩
  obtain ⟨f', d, rfl, hs, k⟩ := asS_of k
  have hne : ∀ b, b ≠ l → (fun b => if b = l then none else G1 b) b = G1 b := fun b z => if_neg z
  have hat : ∀ b o, (fun b => if b = l then none else G1 b) b = some o → b ≠ l ∧ G1 b = some o := fun b o z => by
    have z : (if b = l then none else G1 b) = some o := z
    by_cases y : b = l
    · rw [if_pos y] at z; cases z
    · rw [if_neg y] at z; exact ⟨y, z⟩
  generalize (fun b => if b = l then none else G1 b) = G2 at hne hat
  have hl1 : H1 l = some (.lst vs) := g1.h _ _ hl
  have sq : ∀ a xs, SqT X.K G1 a xs → SqT X.K G2 a xs := fun a xs q => by
    rcases q with (q | ⟨o, q⟩) | q
    · refine .inl (.inl ?_)
      rw [hne a fun z => ?_]
      · exact q
      · have := g1.sub _ _ q
        rw [z, hl1] at this; cases this
    · refine .inl (.inr ⟨o, ?_⟩)
      rw [hne a fun z => ?_]
      · exact q
      · have := g1.sub _ _ q
        rw [z, hl1] at this; cases this
    · exact .inr q
  refine k v G2 H1 ⟨fun b o e => ?_, g1.h, fun b o e => g1.sub b o (hat b o e).2, fun b o e => ?_⟩ (.sh ⟨flat2_rd sq v d hs (sh_inv w).rd, fun z => by cases z⟩)
  · rw [hne b fun z => by rw [z, n] at e; cases e]
    exact g1.g b o (gg b o e)
  · obtain ⟨y, e⟩ := hat b o e
    rcases g1.new b o e with z | z
    · rw [ne b y] at z; exact .inl z
    · exact .inr z
end
end L3
namespace L2
open PySem PySem.Spec PyProof.Rows
noncomputable def tabA (P c' : Addr) (pos : Pos) : HO := .ext fun h => ∃ ps, h.get? P = some (PySem.W.tabObj ps) ∧ TriplesOk ps.toList ∧ codeAmong pos ps.toList = some (.ref c')
noncomputable def codeH (c' : Addr) (q : Str) : HO := .ext fun h => h.CodeRec (.ref c') q
noncomputable def Lk (P : Addr) (pos : Pos) (q : Str) (H : Hp) : Prop := ∃ c', H P = some (tabA P c' pos) ∧ H c' = some (codeH c' q)
noncomputable def TabS (b : Bool) (P : Addr) (pos : Pos) (q : Str) (H : Hp) : Prop := match b with
  | true => H P = some (tab0 P)
  | false => Lk P pos q H
noncomputable def MvS (b : Bool) (P : Addr) (pos : Pos) (q : Str) (H H1 : Hp) : Prop := match b with
  | true => ∃ c', H c' = none ∧ H1 = upd (upd H P (tabA P c' pos)) c' (codeH c' q)
  | false => H1 = H
theorem Lk.same {P : Addr} {pos : Pos} {q : Str} {H H1 : Hp} (l : Lk P pos q H) (s : Same H H1) : Lk P pos q H1 := by
  obtain ⟨c', h1, h2⟩ := l
  exact ⟨c', s _ _ h1, s _ _ h2⟩
theorem TabS.same {b : Bool} {P : Addr} {pos : Pos} {q : Str} {H H1 : Hp} (l : TabS b P pos q H) (s : Same H H1) : TabS b P pos q H1 := by
  cases b with
  | true => exact s _ _ l
  | false => exact Lk.same l s
theorem TabS.at {b : Bool} {P : Addr} {pos : Pos} {q : Str} {H : Hp} (h : TabS b P pos q H) : ∃ o, H P = some o ∧ ∀ xs, o ≠ .lst xs := by
  cases b with
  | true => exact ⟨_, h, fun _ z => by cases z⟩
  | false =>
    obtain ⟨_, h, _⟩ := h
    exact ⟨_, h, fun _ z => by cases z⟩
theorem MvS.lk {b : Bool} {P : Addr} {pos : Pos} {q : Str} {H H1 : Hp} (l : TabS b P pos q H) (m : MvS b P pos q H H1) : Lk P pos q H1 := by
  cases b with
  | true =>
    obtain ⟨c', hc, rfl⟩ := m
    have l : H P = some (tab0 P) := l
    refine ⟨c', ?_, upd_same⟩
    rw [upd_ne (fun z => by rw [z, hc] at l; cases l), upd_same]
  | false =>
    cases (show H1 = H from m)
    exact l
theorem code_ok {P : Program} {w : World} {H : Hp} {h : Heap} {c' : Addr} {q : Str} (r : h.CodeRec (.ref c') q) : ObjOk P w H h c' (codeH c' q) := by
  obtain ⟨c2, oc, vs, t, e, ho, hd, hv⟩ := id r
  cases e
  exact ⟨r, ⟨oc, ho⟩, fun h1 h2 ⟨c2, oc, vs, t, e, ho, hd, hv⟩ k => by cases e; exact ⟨_, oc, vs, t, rfl, k _ ho, hd, hv⟩⟩
section
variable {X : Cx} {pins : List (Addr × Obj)} {σ : St} {H : Hp} {s : Shared} {sc : Scope} {A : Around} {b : Bool}
theorem lam_makeM (I : Inv X pins σ H s) {P : Addr} {c0 : Addr} {params : Arguments} {body : Expr} {pos : Pos} {clos : List (Str × Addr)} {Q : Value → Shared → Prop} {E : Value → Shared → Prop}
    (hP : TabS b P pos (X.env.qual ++ "<lambda>") H) (hC : PySem.W.CodeHd X.base c0 P) (hcode : X.env.code = .ref c0) (hB : ∃ bm o, X.mg "__builtins__" = some (.ref bm) ∧ bm ≠ builtinsNs ∧ bm ≠ mainGlobals ∧ X.base.get? bm = some o ∧ o.cls = .type "module" ∧ o.dict = some builtinsNs ∧ o.data = .plain)
    (hdef : defaultsOf params X.env = ([], [])) (hcl : closureFor sc X.env = pure clos)
    (h : ∀ f c' ctv s' H1, MvS b P pos (X.env.qual ++ "<lambda>") H H1 → H1 c' = some (codeH c' (X.env.qual ++ "<lambda>")) → s.heap.objs.size ≤ f →
      Inv X (pins ++ [(f, PySem.W.kla_obj "<lambda>" (X.env.qual ++ "<lambda>") params body sc clos ((X.mg "__name__").getD .none) c' ctv)]) σ H1 s' → Q (.ref f) s') :
    wpAny (model X.prog X.w) A (eval (.Lambda params body sc pos) X.env) Q E s := by
  have hPn : ∃ o, H P = some o := let ⟨o, h, _⟩ := hP.at; ⟨o, h⟩
  have ne0 : ∀ b o, X.base.get? b = some o → b ≠ P := fun b o e z => by
    have := (I.bs b o e).2
    obtain ⟨u, hu⟩ := hPn
    rw [z, hu] at this; cases this
  have hg := I.ok.mod.glob.keeps I.bk
  have hgP : mainGlobals ≠ P := by
    obtain ⟨o, es, ep, e, _⟩ := I.ok.mod.glob
    exact ne0 _ _ e
  obtain ⟨bm, ob, b1, b2, b3, b4, b5⟩ := hB
  cases b with
  | true =>
    have hP : H P = some (tab0 P) := hP
    obtain ⟨hp0, _, _⟩ := I.hok P _ hP
    have hp0 : s.heap.get? P = some (PySem.W.tabObj #[]) := hp0
    refine PySem.W.kla_eval hdef (PySem.W.kla_makeFunction (mg := X.mg) hcl I.ok.glob hg hcode (hC.keeps I.bk) hp0 trivial rfl hgP ⟨bm, ob, b1, b2, b3, ne0 _ _ b4, I.bk _ _ b4, b5⟩ fun c' ctv h' tk hx hge hlt hrec htb => ?_)
    have hk : ∀ (o : Obj) b u, b ≠ P → s.heap.get? b = some u → (h'.push o).get? b = some u := fun o b u hb e => Heap.get?_push_of_some _ (hx b u hb e)
    have hPlt : P < s.heap.objs.size := Heap.lt_size hp0
    have hsz : s.heap.objs.size ≤ h'.objs.size := Nat.le_of_lt (Nat.lt_of_le_of_lt hge hlt)
    have htb2 : ∀ o : Obj, (h'.push o).get? P = some (PySem.W.tabObj #[rawInt pos.line, rawInt pos.col, .ref c']) := fun o => Heap.get?_push_of_some _ (by simpa using htb)
    have I1 : Inv X pins σ (upd H P (tabA P c' pos)) { s with heap := h'.push (PySem.W.kla_obj "<lambda>" (X.env.qual ++ "<lambda>") params body sc clos ((X.mg "__name__").getD .none) c' ctv), toks := tk } :=
      I.write (by rw [hP]; trivial) (.inl rfl) (fun b u hb e => hk _ b u hb e) ⟨_, htb2 _⟩ ⟨⟨_, htb2 _, by simpa using TriplesOk_snoc pos.line pos.col (.ref c') [] trivial, by simpa using codeAmong_snoc (pos := pos) (c := .ref c') [] trivial rfl⟩, ⟨_, htb2 _⟩, fun h1 h2 ⟨ps, e, r⟩ k => ⟨ps, k _ e, r⟩⟩
    have hcn : H c' = none := I.hok.fresh hge
    have hcn1 : upd H P (tabA P c' pos) c' = none := by rw [upd_ne (Nat.ne_of_gt (Nat.lt_of_lt_of_le hPlt hge))]; exact hcn
    have I2 := I1.track (o := codeH c' (X.env.qual ++ "<lambda>")) hcn1 (Nat.le_trans I.sz hge) (Nat.ne_of_gt (Nat.lt_of_lt_of_le I.lt hge)) (fun z c e q => by
        obtain ⟨v, o, ho, _⟩ := I.cell z c e
        exact absurd (Nat.lt_of_lt_of_le (Heap.lt_size ho) hge) (by rw [q]; exact Nat.lt_irrefl _))
      (fun p hp q => absurd (Nat.lt_of_lt_of_le (Heap.lt_size (I.pin p hp).1) hge) (by rw [q]; exact Nat.lt_irrefl _)) (code_ok (by
        obtain ⟨c2, oc, vs, t, e, ho, hd, hv⟩ := hrec
        cases e
        exact ⟨_, oc, vs, t, rfl, Heap.get?_push_of_some _ ho, hd, hv⟩))
    have hfn : upd (upd H P (tabA P c' pos)) c' (codeH c' (X.env.qual ++ "<lambda>")) h'.objs.size = none := by
      rw [upd_ne (Nat.ne_of_gt hlt), upd_ne (Nat.ne_of_gt (Nat.lt_of_lt_of_le hPlt hsz))]; exact I.hok.fresh hsz
    refine h h'.objs.size c' ctv _ _ ⟨c', hcn, rfl⟩ upd_same hsz (I2.pins_of fun p hp => ?_)
    rcases List.mem_append.mp hp with hp | hp
    · exact I2.pin p (List.mem_append_right _ hp)
    · obtain rfl := List.mem_singleton.mp hp
      exact ⟨Heap.get?_push_size _ rfl, hfn, Nat.ne_of_gt (Nat.lt_of_lt_of_le I.lt hsz), I.nofs hsz, fun v z => by cases z⟩
  | false =>
    obtain ⟨c', hP, hc'⟩ := hP
    obtain ⟨⟨ps, hp0, ht, hf⟩, _, _⟩ := I.hok P _ hP
    refine PySem.W.kla_eval hdef (PySem.W.kla_makeFunctionHit (mg := X.mg) hcl I.ok.glob hg hcode (hC.keeps I.bk) hp0 ht hf ⟨bm, ob, b1, b2, b3, ne0 _ _ b4, I.bk _ _ b4, b5⟩ fun ctv h' tk hk hsz => ?_)
    have I1 : Inv X pins σ H { s with heap := h'.push (PySem.W.kla_obj "<lambda>" (X.env.qual ++ "<lambda>") params body sc clos ((X.mg "__name__").getD .none) c' ctv), toks := tk } := I.kept (t' := tk) fun b o e => Heap.get?_push_of_some _ (hk b o e)
    refine h h'.objs.size c' ctv _ H rfl hc' hsz (I1.pins_of fun p hp => ?_)
    rcases List.mem_append.mp hp with hp | hp
    · exact I1.pin p (List.mem_append_right _ hp)
    · obtain rfl := List.mem_singleton.mp hp
      exact ⟨Heap.get?_push_size _ rfl, I.hok.fresh hsz, Nat.ne_of_gt (Nat.lt_of_lt_of_le I.lt hsz), I.nofs hsz, fun v z => by cases z⟩
end
end L2
namespace L3
open PySem PySem.Spec PyProof.Rows L2
section
variable {K : PySem.W.Frag} {H0 G0 : Hp} {ρ : Env3} {σ : L2.St} {G H H1 : Hp} {b : Bool} {P : Addr} {pos : Pos} {q : Str}
theorem Fr3.gP (F : Fr3 K H0 G0 ρ σ G H) (h0 : TabS b P pos q H0) (hg : G0 P = none) : G P = none := by
  obtain ⟨u, hu, _⟩ := h0.at
  cases e : G P with
  | none => rfl
  | some o =>
    rcases F.old P o e with z | z
    · rw [hg] at z; cases z
    · rw [hu] at z; cases z
theorem Fr3.mvG (F : Fr3 K H0 G0 ρ σ G H) (h0 : TabS b P pos q H0) (hg : b = true → G0 P = none) : ∀ H1, MvS b P pos q H H1 → Same G H1 := fun H1 m a o e => by
  have hb := F.sub a o e
  cases b with
  | false =>
    cases (show H1 = H from m)
    exact hb
  | true =>
    have hGP := F.gP h0 (hg rfl)
    obtain ⟨c, hc, rfl⟩ := m
    rw [upd_ne (fun z => by rw [z, hc] at hb; cases hb), upd_ne (fun z => by rw [z, hGP] at e; cases e)]; exact hb
end
noncomputable def sortEM (b : Bool) (K : PySem.W.Frag) (H0 : Hp) (P : Addr) (pos : Pos) (q : Str) (N : List Str) (iw it : Nat) (tb : TE3) : TE := fun σ H Q => ∃ G0 ρ G, Fr3 K H0 G0 ρ σ G H ∧ (TabS b P pos q H0 ∧ (b = true → G0 P = none)) ∧ ∃ (f : Bool) (ds : List D) (T : Int) (key : D → K3),
  ρ[iw]? = some (some (.sh f (.list ds))) ∧ ρ[it]? = some (some (.sh true (.int T))) ∧ ds.length < 1000 ∧ (∀ d ∈ ds, tb (start3 N [d, .int T]) fun c => ∃ f, c = .sh f (kd3 (key d))) ∧ (ds.map key).Nodup ∧
  ∀ ds' : List D, ds'.Perm ds → ds'.Pairwise (fun a b => lex3 (key a) (key b) = true) → ∀ H1, MvS b P pos q H H1 → ∀ l vs H', H' l = none → Same H1 H' → RdVs K G vs ds' → Q (.ref l) (upd H' l (.lst vs))
section
variable {b : Bool} {X : Cx} {H0 : Hp} {P c0 cy : Addr} {x y wn xn : Str} {i iw it k : Nat} {sc : Scope} {params : Arguments} {body : Expr} {tb : TE3} {np wp kp lp cpos pos pos' : Pos}
theorem pe_sortedM (hw : X.N[iw]? = some wn) (hwv : Vis X.env.scope wn) (hwd : (wn == ("__debug__" : Str)) = false) (hwc : (wn == ("__classdict__" : Str)) = false) (L : LamIn X P c0 cy x y it params body sc) (hr : Room (k + 3) X.A)
    (hb : ∀ f cd' s H', Room k (cxLam X [x, y] (X.env.qual ++ "<lambda>") sc f cd' [(y, cy)] X.A.in1.in1 s H').A → PE3 (cxLam X [x, y] (X.env.qual ++ "<lambda>") sc f cd' [(y, cy)] X.A.in1.in1 s H') H' body tb)
    (hg : Gl X "sorted") (hm : X.mg "sorted" = none) : PE X (.Call (.Name "sorted" np) [.Name wn wp] [⟨some "key", .Lambda params body sc lp, kp⟩] cpos) (sortEM b X.K H0 P lp (X.env.qual ++ "<lambda>") [x, y] iw it tb) := by
  intro pins s σ H Q I hyp
  obtain ⟨G0, ρ, G, F, ⟨hp0, hg0⟩, f, ds, T, key, hw', ht', h64, hkey, hnd, cont⟩ := hyp
  obtain ⟨wv, hwσ, ww⟩ := F.slot iw _ hw'
  obtain ⟨tv, htσ, tw⟩ := F.slot it _ ht'
  obtain rfl : tv = .int T := by
    cases tw with
    | sh r => cases r.rd; rfl
  obtain ⟨l, xs, rfl, hq, rs⟩ : ∃ l xs, wv = .ref l ∧ SqL X.K G l xs ∧ RdVs X.K G xs ds := by
    cases ww with
    | sh r =>
      have rd := r.rd
      cases rd with
      | lst q rs => exact ⟨_, _, rfl, q, rs⟩
  have hPH : TabS b P lp (X.env.qual ++ "<lambda>") H := hp0.same F.keep
  have hsame := F.mvG hp0 hg0
  refine wpAny_Call_Name_kw (ld_blt I hg hm (show bootBuiltins "sorted" = some (.builtin "sorted") by rfl) ?_)
  refine callWith_kw ?_
  refine thn ((pa_cons (pe_var hw hwv hwd hwc) pa_nil) cpos pins s σ H (fun vs H1 => vs = [.ref l] ∧ H1 = H) I ⟨_, hwσ, rfl, rfl⟩) fun us s1 h1 => ?_
  obtain ⟨vs, H1, I1, rv, e1, e2⟩ := h1
  subst e1 e2
  obtain rfl : us = [.ref l] := by
    cases rv with
    | cons a b => cases b; cases a; rfl
  show wpAny _ _ (evalAll [do let v ← eval (.Lambda params body sc lp) X.env; standAt cpos; pure v]) _ _ s1
  refine wpAny_evalAll_cons (wpAny_bind (lam_makeM I1 hPH L.hd L.code L.bm L.defs L.clos fun fa c' ctv s2 HM mv hcH hf I2 => wpAny_bind (wpAny_standAt (wpAny_pure (wpAny_evalAll_nil ?_)))))
  show wpAny _ _ (call (.builtin "sorted") [.ref l] [(Str.ofString "key", .ref fa)]) _ _ s2
  have sG : Same G HM := hsame HM mv
  obtain ⟨its, rV, hpl, hz⟩ := I2.list (sG.seq hq)
  have hl1 : its.length = ds.length := by rw [← rV.length, rs.length]
  have hlk : its.length = (ds.map key).length := by rw [List.length_map, hl1]
  have nw : ∀ b : Addr, s2.heap.objs.size ≤ b → X.s₀.heap.objs.size ≤ b ∧ b ≠ X.env.locals ∧ (∀ z c, X.env.cells.lookup z = some c → c ≠ b) ∧ (∀ p ∈ X.pn ++ (pins ++ [(fa, PySem.W.kla_obj "<lambda>" (X.env.qual ++ "<lambda>") params body sc [(y, cy)] ((X.mg "__name__").getD .none) c' ctv)]), p.1 ≠ b) ∧ b ∉ frs X.stack := fun b hb => by
    refine ⟨Nat.le_trans I2.sz hb, Nat.ne_of_gt (Nat.lt_of_lt_of_le I2.lt hb), fun z c e => ?_, fun p hp => ?_, fun z => ?_⟩
    · obtain ⟨v, o, ho, _⟩ := I2.cell z c e
      exact Nat.ne_of_lt (Nat.lt_of_lt_of_le (Heap.lt_size ho) hb)
    · exact Nat.ne_of_lt (Nat.lt_of_lt_of_le (Heap.lt_size (I2.pin p hp).1) hb)
    · rcases List.mem_cons.mp (I2.stkSub b z) with q | q
      · exact Nat.ne_of_gt (Nat.lt_of_lt_of_le I2.lt hb) q
      · exact I2.nofs hb q
  refine sorted_key (lt := fun i j => lex3 ((ds.map key).getD i (0, 0, 0)) ((ds.map key).getD j (0, 0, 0))) (vs := its) (kf := fa)
    (J := fun D kS ks s' => ∃ H', Inv X (pins ++ [(fa, PySem.W.kla_obj "<lambda>" (X.env.qual ++ "<lambda>") params body sc [(y, cy)] ((X.mg "__name__").getD .none) c' ctv)]) σ H' s' ∧ Same HM H' ∧ KeysV X.K H' ks ((ds.map key).take ks.length) ∧ H' D = none ∧ H' kS = none)
    hpl.isList (by omega) (by rw [hlk]; exact lex3_ordr hnd) (fun D kS hD hlt => ?_) (fun D kS h' hk hD hlt => ?_) (fun D kS ks s' p c hD hlt hJ hl ok so ho => ?_)
  · have hkS : s2.heap.objs.size ≤ kS := Nat.le_trans hD (Nat.le_of_lt hlt)
    refine ⟨fun ks s' h' b hJ hb sb => ?_, fun ks v r s' hdrop hJ hoD hoK => ?_, fun ks s' Q hJ hl h2 hQ => ?_, fun ks s' i j C hJ hl hi hj hC => ?_⟩
    · obtain ⟨H', I', sm, kv, n1, n2⟩ := hJ
      have hbb : H' b = none ∧ s2.heap.objs.size ≤ b := by
        rcases hb with rfl | rfl
        · exact ⟨n1, hD⟩
        · exact ⟨n2, hkS⟩
      obtain ⟨w1, w2, w3, w4, _⟩ := nw b hbb.2
      exact ⟨H', I'.turned (t' := s'.toks) (fun c o ne e => (sb.2 c ne).trans e) hbb.1 w2 (.inr w1) w3 w4, sm, kv, n1, n2⟩
    · obtain ⟨H', I', sm, kv, n1, n2⟩ := hJ
      obtain ⟨oD, eD⟩ := hoD
      obtain ⟨oK, eK⟩ := hoK
      have hv : its[ks.length]? = some v := by
        have := List.getElem?_drop (xs := its) (i := ks.length) (j := 0)
        rw [hdrop] at this
        simpa using this.symm
      have hn : ks.length < ds.length := by rw [← hl1]; exact (List.getElem?_eq_some_iff.mp hv).1
      obtain ⟨xv, hxv, rxv⟩ := rs.get (List.getElem?_eq_getElem hn)
      obtain ⟨u, hu, ru⟩ := rV.get hxv
      obtain rfl : u = v := Option.some.inj (hu.symm.trans hv)
      obtain ⟨m, hns, hloc⟩ := id I'.loc
      obtain ⟨tu, rt, lk⟩ := hloc it y (.int T) L.ix htσ (.inr (.inl L.kd))
      have hcell : s'.heap.IsCell cy (some tu) := by
        rcases lk with ⟨z, _⟩ | ⟨_, c, hc, z⟩
        · rw [L.kd] at z; cases z
        · rw [L.lk] at hc; cases hc; exact z
      have hfo := (I'.pin (fa, PySem.W.kla_obj "<lambda>" (X.env.qual ++ "<lambda>") params body sc [(y, cy)] ((X.mg "__name__").getD .none) c' ctv) (by simp)).1
      have hco : s'.heap.CodeRec (.ref c') (X.env.qual ++ "<lambda>") := (I'.hok c' _ (sm _ _ hcH)).1
      have hrm : Room (k + 1) X.A.in1.in1 := hr.in1.in1
      have pb := hb fa (.ref c') s' H' (hrm.deeper _)
      refine wpAny_mono (lam_call (A := X.A.in1.in1) (Q := fun v' H'' => Same H' H'' ∧ ∃ a, v' = .ref a ∧ SqT X.K H'' a [.int (key ds[ks.length]).1, .int (key ds[ks.length]).2.1, .int (key ds[ks.length]).2.2]) L.S L.ne I' I'.ok.frames hrm.hd hrm.depth ru rt hcell (I'.freeC y cy L.lk) hfo hco (L.bind _ _ _ _) pb.ok
        ⟨G, start3 [x, y] [ds[ks.length], .int T], G, fr3_start (N := [x, y]) (sG.trans sm) (.cons rxv (.cons (.int T) .nil)), pb.mono _ _ _ (fun cc hcc v' G' H'' g w => ?_) (hkey _ (List.getElem_mem hn))⟩) (fun r s'' hr' => ?_) fun _ _ z => z
      · obtain ⟨fl, rfl⟩ := hcc
        refine ⟨g.h, ?_⟩
        cases w with
        | sh r' =>
          have rd := r'.rd
          unfold kd3 at rd
          cases rd with
          | tup q rr =>
            cases rr with
            | cons a rr =>
              cases a
              cases rr with
              | cons a rr =>
                cases a
                cases rr with
                | cons a rr => cases a; cases rr; exact ⟨_, rfl, g.sub.tup q⟩
      · obtain ⟨v', H'', I'', un, rv', hS, a, rfl, sq⟩ := hr'
        obtain rfl : r = .ref a := rv'
        refine ⟨⟨H'', I'', sm.trans hS, ?_, un.free D oD eD n1 (by simp), un.free kS oK eK n2 (by simp)⟩, (un.keep D oD eD n1 (nw D hD).2.2.2.2 (by simp)).trans eD.symm, (un.keep kS oK eK n2 (nw kS hkS).2.2.2.2 (by simp)).trans eK.symm⟩
        rw [List.length_append, List.length_singleton, List.take_add_one, List.getElem?_map, List.getElem?_eq_getElem hn]
        exact KeysV.snoc ⟨a, rfl, sq⟩ (kv.same hS)
    · obtain ⟨H', I', sm, kv, n1, n2⟩ := hJ
      exact kind3 (keysAt_of I' kv) (by omega) hQ
    · obtain ⟨H', I', sm, kv, n1, n2⟩ := hJ
      rw [hl, hlk, List.take_length] at kv
      have ka := keysAt_of I' kv
      exact ask3 (ka.get (by omega)) (ka.get (by omega)) hC
  · exact ⟨_, I2.kept (t' := s2.toks) hk, Same.refl _, trivial, I2.hok.fresh hD, I2.hok.fresh (Nat.le_trans hD (Nat.le_of_lt hlt))⟩
  · obtain ⟨H', I', sm, kv, n1, n2⟩ := hJ
    obtain ⟨w1, w2, w3, w4, _⟩ := nw D hD
    have hb1 : ∀ j ∈ p.toList, j < its.length := fun j hj => List.mem_range.mp (ok.mem_iff.mp hj)
    have hsz : (p.toList.map fun i => xs.getD i V.non).length ≤ sizeLine := by
      rw [List.length_map, Array.length_toList, ok.size, sizeLine_eq]; omega
    have I3 := I'.track (o := .lst (p.toList.map fun i => xs.getD i V.non)) n1 w1 w2 w3 w4 ⟨hsz, _, c, vals_map rV hb1, ho⟩
    rw [hl1] at ok so
    exact ⟨.ref D, _, I3.unpinned, rfl, cont _ (perm_map PyData.none ok) (srt_map PyData.none key ok so) HM mv D _ H' n1 sm (rdvs_map rs fun j hj => by rw [← hl1]; exact hb1 j hj)⟩
end
end L3
namespace L3
open PySem PySem.Spec PyProof.Rows L2
section
variable {K : PySem.W.Frag} {H0 G0 : Hp} {ρ : Env3} {σ : L2.St} {G H H1 : Hp} {b : Bool} {P : Addr} {pos : Pos} {qn : Str}
theorem Fr3.both (F : Fr3 K H0 G0 ρ σ G H) {c : Addr} {o : HO} (hc : H c = none) (hd : datE ρ = true) : Fr3 K (upd H0 c o) G0 ρ σ G (upd H c o) := by
  have hG : G c = none := F.sub.free hc
  have nw : ∀ a, a ≠ c → H0 a = none → upd H0 c o a = none := fun a ne n => by rw [upd_ne ne]; exact n
  refine ⟨fun b u e => ?_, fun b u e => ?_, fun b u e => ?_, F.g0, fun i cl e => ?_, fun i cl v a e e' h => ?_, F.apart, F.len⟩
  · by_cases hb : b = c
    · subst hb; rw [upd_same] at e ⊢; exact e
    · rw [upd_ne hb] at e ⊢; exact F.keep b u e
  · rw [upd_ne (fun z => by rw [z, hG] at e; cases e)]; exact F.sub b u e
  · rcases F.old b u e with z | z
    · exact .inl z
    · exact .inr (nw b (fun z => by rw [z, hG] at e; cases e) z)
  · obtain ⟨v, hv, w⟩ := F.slot i cl e
    refine ⟨v, hv, ?_⟩
    have hc' := datE_at hd e
    cases w with
    | sh r => exact .sh (r.h0 fun a u e n => nw a (fun z => by rw [z, hG] at e; cases e) n)
    | ow h r n => exact .ow (by rw [upd_ne (fun z => by rw [z, hc] at h; cases h)]; exact h) (r.h0 fun a u e m => nw a (fun z => by rw [z, hG] at e; cases e) m) n
    | tr t => cases hc'
    | dt _ _ _ => cases hc'
    | ex _ => cases hc'
  · obtain ⟨⟨u, hu, _⟩, _⟩ := (F.vw e e').has h
    exact nw a (fun z => by rw [z, hc] at hu; cases hu) (F.mine i cl v a e e' h)
theorem Fr3.mv (F : Fr3 K H0 G0 ρ σ G H) (h0 : TabS b P pos qn H0) (hg : b = true → G0 P = none) (hd : datE ρ = true) (m : MvS b P pos qn H H1) : ∃ H01, MvS b P pos qn H0 H01 ∧ Fr3 K H01 G0 ρ σ G H1 := by
  cases b with
  | false =>
    cases (show H1 = H from m)
    exact ⟨H0, rfl, F⟩
  | true =>
    obtain ⟨c', hc, rfl⟩ := m
    have h0 : H0 P = some (tab0 P) := h0
    have hP : H P = some (tab0 P) := F.keep _ _ h0
    exact ⟨_, ⟨c', F.keep.free hc, rfl⟩, Fr3.both (F.tab h0 (fun xs z => by cases z) (hg rfl) hd) (by rw [upd_ne (fun z => by rw [z, hP] at hc; cases hc)]; exact hc) hd⟩
theorem Fr3.mvGr (F : Fr3 K H0 G0 ρ σ G H) (h0 : TabS b P pos qn H0) (hg : b = true → G0 P = none) (m : MvS b P pos qn H H1) : ∃ H01, MvS b P pos qn H0 H01 ∧ Gr G0 H01 G H1 := by
  have F0 : Fr3 K H0 G0 [] [] G H := ⟨F.keep, F.sub, F.old, F.g0, fun i c e => (by simp at e), fun i c v a e => (by simp at e), fun i j c c' v v' a e => (by simp at e), rfl⟩
  obtain ⟨H01, m0, F1⟩ := F0.mv h0 hg rfl m
  exact ⟨H01, m0, F1.gr0⟩
noncomputable def weak1 : Option Cl → Option Cl
  | some (.sh _ d) => some (.sh (scal3 d) d)
  | _ => none
noncomputable def weakE (ρ : Env3) : Env3 := ρ.map weak1
theorem weak_at {ρ : Env3} {i : Nat} {c : Cl} (h : (weakE ρ)[i]? = some (some c)) : ∃ f d, ρ[i]? = some (some (.sh f d)) ∧ c = .sh (scal3 d) d := by
  unfold weakE at h
  rw [List.getElem?_map] at h
  obtain ⟨o, e, h⟩ := Option.map_eq_some_iff.mp h
  match o, h with
  | some (.sh f d), h => exact ⟨f, d, e, (Option.some.inj (show some (Cl.sh (scal3 d) d) = some c from h)).symm⟩
  | none, h => exact nomatch (show (none : Option Cl) = some c from h)
  | some (.ow _ _), h => exact nomatch (show (none : Option Cl) = some c from h)
  | some (.tr _ _), h => exact nomatch (show (none : Option Cl) = some c from h)
  | some (.dt _), h => exact nomatch (show (none : Option Cl) = some c from h)
  | some (.ex _), h => exact nomatch (show (none : Option Cl) = some c from h)
theorem Fr3.anew (F : Fr3 K H0 G0 ρ σ G H) (s : Same G H1) : Fr3 K H1 G (weakE ρ) σ G H1 where
  keep := Same.refl _
  sub := s
  old := fun _ _ e => .inl e
  g0 := Same.refl _
  slot := fun i c e => by
    obtain ⟨f, d, e1, rfl⟩ := weak_at e
    obtain ⟨v, hv, w⟩ := F.slot i _ e1
    exact ⟨v, hv, .sh ⟨(sh_inv w).rd, fun h => rdn_scal h (sh_inv w).rd⟩⟩
  mine := fun i c v a e e' h => by
    obtain ⟨f, d, e1, rfl⟩ := weak_at e
    exact False.elim h
  apart := fun i j c c' v v' a e e2 e3 e4 h h' => by
    obtain ⟨f, d, e1, rfl⟩ := weak_at e
    exact False.elim h
  len := by rw [weakE, List.length_map]; exact F.len
end
theorem PSs.ex {α : Type} {X : Cx} {l : List Stmt} {p : α → Prop} {t : α → TS} (h : ∀ a, p a → PSs X l (t a)) : PSs X l (fun B σ H => ∃ a, p a ∧ t a B σ H) := fun pins s σ H B I ⟨a, ha, q⟩ => h a ha pins s σ H B I q
theorem PT.ex {α : Type} {X : Cx} {e : Expr} {t : α → TT} (h : ∀ a, PT X e (t a)) : PT X e (fun σ H Q => ∃ a, t a σ H Q) := fun pins s σ H Q I ⟨a, q⟩ => h a pins s σ H Q I q
noncomputable def liftMS (b : Bool) (K : PySem.W.Frag) (H0 : Hp) (P : Addr) (pos : Pos) (qn : Str) (t : TS3) : TS := fun B σ H => ∃ G0 A ρ G, Fr3 K H0 G0 ρ σ G H ∧ (TabS b P pos qn H0 ∧ (b = true → G0 P = none)) ∧ t A ρ ∧ ∀ H1, MvS b P pos qn H0 H1 → LD K H1 G0 A B
section
variable {X : Cx} {H0 : Hp} {b : Bool} {P : Addr} {lp : Pos} {qn : Str}
theorem x_consS {st : Stmt} {rest : List Stmt} {t u : TS3} (h : PS3 X H0 st t) (hr : PSs X rest (liftMS b X.K H0 P lp qn u)) : PSs X (st :: rest) (liftMS b X.K H0 P lp qn (seqX t u)) := PSs.imp (pss_cons h hr) fun B σ H hyp => by
  obtain ⟨G0, A, ρ, G, F, hp, q, L⟩ := hyp
  exact ⟨G0, { nx := u A, rt := fun _ _ => False }, ρ, G, F, q, ⟨fun ρ' σ' G' H' F' q' => ⟨G0, A, ρ', G', F', hp, q', L⟩, fun _ _ _ _ _ _ _ z => z.elim, fun _ _ _ _ _ z => z.elim, fun _ _ _ _ _ z => z.elim⟩⟩
theorem x_moveS {st : Stmt} {rest : List Stmt} {t u : TS3} (h : PS X st (liftMS b X.K H0 P lp qn t)) (hr : ∀ H1, PSs3 X H1 rest u) : PSs X (st :: rest) (liftMS b X.K H0 P lp qn (seq3 t u)) := PSs.imp (pss_cons h (PSs.ex (p := fun _ : Hp => True) fun H1 _ => hr H1)) fun B σ H hyp => by
  obtain ⟨G0, A, ρ, G, F, hp, q, L⟩ := hyp
  exact ⟨G0, { A with nx := u A }, ρ, G, F, hp, q, fun H1 m => ⟨fun ρ' σ' G' H' F' q' => ⟨H1, trivial, G0, A, ρ', G', F', q', L H1 m⟩, (L H1 m).rt, (L H1 m).bk, (L H1 m).ct⟩⟩
end
section
variable {b : Bool} {X : Cx} {H0 : Hp} {P c0 cy : Addr} {x y wn xn : Str} {i iw it k : Nat} {sc : Scope} {params : Arguments} {body : Expr} {tb : TE3} {np wp kp lp cpos pos pos' : Pos}
theorem s_sortS (hN : X.N.Nodup) (hi : X.N[i]? = some xn) (hx : Loc X.env.scope xn) (hw : X.N[iw]? = some wn) (hwv : Vis X.env.scope wn) (L : LamIn X P c0 cy x y it params body sc) (hr : Room (k + 3) X.A)
    (hb : ∀ f cd' s H', Room k (cxLam X [x, y] (X.env.qual ++ "<lambda>") sc f cd' [(y, cy)] X.A.in1.in1 s H').A → PE3 (cxLam X [x, y] (X.env.qual ++ "<lambda>") sc f cd' [(y, cy)] X.A.in1.in1 s H') H' body tb)
    (hg : Gl X "sorted") (hm : X.mg "sorted" = none) (hwd : (wn == ("__debug__" : Str)) = false := by decide) (hwc : (wn == ("__classdict__" : Str)) = false := by decide)
    (hs : swapsWith (.Call (.Name "sorted" np) [.Name wn wp] [⟨some "key", .Lambda params body sc lp, kp⟩] cpos) (some (.Name xn pos')) pos.line X.env = pure false := by rfl)
    (hf : X.fn xn = true ∨ X.env.scope.names.lookup xn = some .local := by first | exact .inl rfl | exact .inr rfl | assumption) :
    PS X (.Assign [.Name xn pos'] (.Call (.Name "sorted" np) [.Name wn wp] [⟨some "key", .Lambda params body sc lp, kp⟩] cpos) pos) (liftMS b X.K H0 P lp (X.env.qual ++ "<lambda>") (sort3 [x, y] i iw it tb)) :=
  PS.imp (ps_set hN hi hx (pe_sortedM (b := b) (H0 := H0) hw hwv hwd hwc L hr hb hg hm) hs hf) fun B σ H hyp => by
    obtain ⟨G0, A, ρ, G, F, hp, ⟨hd, q⟩, L'⟩ := hyp
    obtain ⟨c, e1, q⟩ := atV_of q
    obtain ⟨f, ds, rfl, q⟩ := asL_of q
    obtain ⟨c, e2, q⟩ := atV_of q
    obtain ⟨T, rfl, h64, key, hk, nd, q⟩ := asI_of q
    refine ⟨G0, ρ, G, F, hp, f, ds, T, key, e1, e2, h64, hk, nd, fun ds' hp' hs' HM mv l vs H' hl sm r => ?_⟩
    obtain ⟨H01, m0, F1⟩ := F.mv hp.1 hp.2 hd mv
    have F2 : Fr3 X.K H01 G0 ρ σ G H' := F1.gr ⟨Same.refl _, sm, F1.sub.trans sm, fun _ _ e => .inl e⟩
    exact (L' H01 m0).nx _ _ G _ (F2.own (f := false) ⟨r, fun z => by cases z⟩ hl) (q ds' hp' hs')
end
noncomputable def spXS (b : Bool) (K : PySem.W.Frag) (P : Addr) (pos : Pos) (qn : Str) (sp : Sp3) : Sp := fun vs H Q _ => ∃ G ds, Same G H ∧ RdVs K G vs ds ∧ (TabS b P pos qn H ∧ (b = true → G P = none)) ∧ sp ds (fun f d => ∀ H1, MvS b P pos qn H H1 → ∀ v G' H', Gr G H1 G' H' → Rf K H1 G' f v d → Q v H') fun _ => False
structure DfXS (b : Bool) (P : Program) (w : World) (K : PySem.W.Frag) (mg : Str → Option Value) (base : Heap) (tb : Addr) (pos : Pos) (qn : Str) (k : Nat) (x : Str) (ps : List Str) (sp : Sp3) : Prop where
  mono : ∀ ds (Q Q' : Bool → D → Prop) (E : Addr → Prop), (∀ f d, Q f d → Q' f d) → sp ds Q E → sp ds Q' E
  ok : Df P w K mg base k x ps (spXS b K tb pos qn sp)
theorem fnXS {b : Bool} {P : Program} {w : World} {K : PySem.W.Frag} {mg : Str → Option Value} {base : Heap} {x qual : Str} {st : Stmt} {f tb : Addr} {pos : Pos} {qn : Str} {fd : FuncData} {N ps : List Str} {k : Nat} {sp : Sp3} {cv : Value → Prop} (F : Fun K x qual st f fd) (hcv : cv fd.code) (S : FnScope N ps (defScope st)) (len : ∀ ds Q E, sp ds Q E → ds.length = ps.length)
    (hbody : ∀ (cdv : Value) (A : Around) (outer : List Env) (s : Shared) (H : Hp) (E : XK), cv cdv → Room k (A.deeper (envOfC qual (defScope st) s.heap.objs.size f cdv)) →
      ∃ t, PSs (cxOf (CXR P w) P w K mg base N qual (defScope st) f cdv A outer s H E) (defBody st) (liftMS b K H tb pos qn t) ∧ ∀ ds Q, sp ds Q (fun _ => False) → t { nx := fun _ => Q true .none, rt := Q } (start3 N ds)) : FnOk P w K mg base (CXR P w) (k + 1) f fd ps (spXS b K tb pos qn sp) := by
  obtain ⟨oc, od, kV, doc, pm, an, cdv, ct, osl, rfl, lk, hcd⟩ := F.ex
  have hcv : cv cdv := hcv
  refine fn_of lk hcd S (fun vs H Q E h => ?_) (fun A outer s H vs Q E hr h => ?_)
  · obtain ⟨G, ds, _, r, _, h⟩ := h
    rw [r.length]; exact len _ _ _ h
  · obtain ⟨G, ds, sG, r, hp, h⟩ := h
    obtain ⟨t, ht, hq⟩ := hbody cdv A outer s H E hcv hr
    exact ⟨_, ht, G, _, start3 N ds, G, fr3_start sG r, hp, hq ds _ h, fun H1 m => ⟨fun ρ σ G' H' F' q => q H1 m .non G' H' F'.gr0 (.sc rfl .non), fun f d v G' H' g rd q => q H1 m v G' H' g rd, fun _ _ _ _ _ q => q.elim, fun _ _ _ _ _ q => q.elim⟩⟩
section
variable {X : Cx} {H0 : Hp} {b : Bool} {tb : Addr} {lp : Pos} {qn : Str} {i k : Nat} {x xn : Str} {ps : List Str} {sp : Sp3} {t : TA3} {e : Expr} {es : List Expr} {p cpos pos pos' : Pos}
noncomputable def callS3 (sp : Sp3) (t : TA3) : TE3 := fun ρ Q => t ρ fun cs => optP (shs cs) fun p => sp p.2 (fun f d => Q (.sh f d)) fun _ => False
theorem dfS (lk : Lk tb lp qn H0) (Gd : DfXS false X.prog X.w X.K X.mg X.base tb lp qn k x ps sp) (hr : Room k X.A) (hg : Gl X x) (ha : PA3 X H0 (e :: es) t) (hdb : (x == ("__debug__" : Str)) = false := by decide)
    (he : starEach (e :: es) X.env = (false, eval e X.env) :: starEach es X.env := by rfl) (hpl : (backTo cpos (starEach es X.env)).any (·.1) = false := by rfl) : PE3 X H0 (.Call (.Name x p) (e :: es) [] cpos) (callS3 sp t) := by
  refine ⟨fun ρ Q Q' h q => ha.mono ρ _ _ (fun cs hcs => ?_) q, PE.imp (pe_df (E := fun _ _ _ => False) Gd.ok hr hg pass_no ha.ok hdb he hpl) fun σ H Q => el5 fun G0 ρ G F q => ⟨G0, ρ, G, F, ha.mono ρ _ _ (fun cs hcs vs G1 H1 g1 w => ?_) q⟩⟩
  · obtain ⟨ds, e, q⟩ := optP_of hcs
    rw [e]
    exact Gd.mono _ _ _ _ (fun f d z => h _ z) q
  show spXS false X.K tb lp qn sp (vs ++ []) H1 _ _
  rw [List.append_nil]
  obtain ⟨ds, e, q⟩ := optP_of hcs
  have F1 := F.gr g1
  have r := w.shs e
  refine ⟨G1, ds.2, g1.sub, r.rd, ⟨lk.same F1.keep, fun z => by cases z⟩, Gd.mono _ _ _ _ (fun f d kq HM mv v G' H' g rf => ?_) q⟩
  cases (show HM = H1 from mv)
  exact kq v G' H' (g1.trans g) (.sh (rf.h0 fun a _ _ n => F1.keep.free n))
noncomputable def liftY (K : PySem.W.Frag) (H1 : Hp) (t : TS3) : TS := fun B σ H => ∃ G0 A ρ G, Same G0 H1 ∧ Fr3 K H1 G0 ρ σ G H ∧ t A ρ ∧ LD K H1 G0 A B
theorem y_cons {st : Stmt} {rest : List Stmt} {t u : TS3} (h : PS3 X H0 st t) (hr : PSs X rest (liftY X.K H0 u)) : PSs X (st :: rest) (liftY X.K H0 (seq3 t u)) := PSs.imp (pss_cons h hr) fun B σ H hyp => by
  obtain ⟨G0, A, ρ, G, s, F, q, L⟩ := hyp
  exact ⟨G0, { A with nx := u A }, ρ, G, F, q, ⟨fun ρ' σ' G' H' F' q' => ⟨G0, A, ρ', G', s, F', q', L⟩, L.rt, L.bk, L.ct⟩⟩
noncomputable def callY3 (i : Nat) (sp : Sp3) (t : TA3) (u : TS3) : TS3 := fun A ρ => t ρ fun cs => optP (shs cs) fun p => sp p.2 (fun f d => u { nx := fun _ => False, rt := A.rt } ((weakE ρ).set i (some (.sh f d)))) fun _ => False
theorem y_call {rest : List Stmt} {u : TS3} (hN : X.N.Nodup) (hi : X.N[i]? = some xn) (hx : Loc X.env.scope xn) (Gd : DfXS b X.prog X.w X.K X.mg X.base tb lp qn k x ps sp) (hr : Room k X.A) (hg : Gl X x) (ha : PA3 X H0 (e :: es) t) (hrest : ∀ H1, PSs X rest (liftY X.K H1 u)) (hdb : (x == ("__debug__" : Str)) = false := by decide)
    (he : starEach (e :: es) X.env = (false, eval e X.env) :: starEach es X.env := by rfl) (hpl : (backTo cpos (starEach es X.env)).any (·.1) = false := by rfl) (hs : swapsWith (.Call (.Name x p) (e :: es) [] cpos) (some (.Name xn pos')) pos.line X.env = pure false := by rfl)
    (hf : X.fn xn = true ∨ X.env.scope.names.lookup xn = some .local := by first | exact .inl rfl | exact .inr rfl | assumption) :
    PSs X (.Assign [.Name xn pos'] (.Call (.Name x p) (e :: es) [] cpos) pos :: rest) (liftMS b X.K H0 tb lp qn (callY3 i sp t u)) :=
  PSs.imp (pss_cons (ps_set hN hi hx (pe_df (E := fun _ _ _ => False) Gd.ok hr hg pass_no ha.ok hdb he hpl) hs hf) (PSs.ex (p := fun _ : Hp => True) fun H1 _ => hrest H1)) fun B σ H hyp => by
    obtain ⟨G0, A, ρ, G, F, hp, q, L⟩ := hyp
    refine ⟨G0, ρ, G, F, ha.mono ρ _ _ (fun cs hcs vs G1 H1 g1 w => ?_) q⟩
    show spXS b X.K tb lp qn sp (vs ++ []) H1 _ _
    rw [List.append_nil]
    obtain ⟨ds, e, q⟩ := optP_of hcs
    have F1 := F.gr g1
    have r := w.shs e
    refine ⟨G1, ds.2, g1.sub, r.rd, ⟨hp.1.same F1.keep, fun z => F1.gP hp.1 (hp.2 z)⟩, Gd.mono _ _ _ _ (fun f d kq HM mv v G' H' g rf => ?_) q⟩
    obtain ⟨H01, m0, g0⟩ := F1.mvGr hp.1 hp.2 mv
    have sG := F1.mvG hp.1 hp.2 HM mv
    exact ⟨HM, trivial, G1, { nx := fun _ => False, rt := A.rt }, _, G', sG, ((F1.anew sG).gr g).set rf, kq, ⟨fun _ _ _ _ _ z => z.elim, fun f' d' v' G2 H2 g2 rf2 q2 => (L H01 m0).rt f' d' v' G2 H2 (g0.trans g2) (rf2.h0 fun a _ _ n => g0.h.free n) q2, fun _ _ _ _ _ z => z.elim, fun _ _ _ _ _ z => z.elim⟩⟩
noncomputable def yend3 (i : Nat) : TS3 := fun A ρ => atV ρ[i]? fun c => ∃ d0 ds, c = .sh true (.tuple [d0, .list ds]) ∧ ds.length < sizeLine ∧ A.rt true (.bool true)
theorem y_end {k0 k1 k2} {np cp1 spos ap cp0 cp ep rp cp2 : Pos} (hx : X.N[i]? = some x) (hvx : Vis X.env.scope x)
    (hdx : (x == ("__debug__" : Str)) = false := by decide) (hcx : (x == ("__classdict__" : Str)) = false := by decide)
    (hi1 : PlainIx (.Constant (.int 1) k1 cp1) := by exact fun _ _ => rfl)
    (hb : attributeBase (.Subscript (.Name x np) (.Constant (.int 1) k1 cp1) spos) "append" X.env (eval (.Subscript (.Name x np) (.Constant (.int 1) k1 cp1) spos) X.env) = eval (.Subscript (.Name x np) (.Constant (.int 1) k1 cp1) spos) X.env := by rfl)
    (hf : ((backTo cp (starEach [(Expr.Constant (.int 0) k0 cp0)] X.env)).all (fun x => !x.1) && (backToKw cp (keywordEach [] X.env)).all (fun x => x.1.isSome) && decide ([(Expr.Constant (.int 0) k0 cp0)].length + ([] : List Keyword).length + (if ([] : List Keyword).isEmpty then 0 else 1) < 30)) = true := by rfl)
    (hl : (ap.endLine == cp.line) = true := by rfl) (hs : starEach [(Expr.Constant (.int 0) k0 cp0)] X.env = (false, eval (Expr.Constant (.int 0) k0 cp0) X.env) :: starEach [] X.env := by rfl) (hpp : (backTo cp (starEach [] X.env)).any (·.1) = false := by rfl)
    (hw : swapsWith (.Call (.Attribute (.Subscript (.Name x np) (.Constant (.int 1) k1 cp1) spos) "append" ap) [(Expr.Constant (.int 0) k0 cp0)] [] cp) none ep.line X.env = pure false := by rfl) :
    PSs X [.Expr (.Call (.Attribute (.Subscript (.Name x np) (.Constant (.int 1) k1 cp1) spos) "append" ap) [.Constant (.int 0) k0 cp0] [] cp) ep, .Return (some (.Constant (.bool true) k2 cp2)) rp] (liftY X.K H0 (yend3 i)) := by
  refine PSs.imp (pss_cons (ps_expr (pe_append (pe_ix ix_tup (pe_var hx hvx hdx hcx) pe_int hi1) (pa_cons pe_int pa_nil hs) hb hf hl hs hpp) hw) (pss_one (ps_ret pe_bl))) fun B σ H hyp => ?_
  obtain ⟨G0, A, ρ, G, sG, F, q, L⟩ := hyp
  obtain ⟨c, ec, d0, ds, rfl, hlen, q⟩ := atV_of q
  obtain ⟨v, hv, w⟩ := F.slot i _ ec
  have rd := (sh_inv w).nw rfl
  cases rd with
  | tup qT rns =>
    rename_i a xs
    cases rns with
    | cons r0 rns =>
      rename_i u0 us0
      cases rns with
      | cons r1 rns =>
        rename_i u1 us1
        cases rns
        cases r1 with
        | lst gp np0 rrs =>
          rename_i p us
          have hT : SqT X.K H a [u0, .ref p] := F.sub.tup qT
          have hp := F.sub _ _ gp
          refine ⟨.ref a, hv, a, _, 1, .ref p, rfl, rfl, hT, rfl, tyV_lst hp, p, us, .int 0, rfl, rfl, hp, by rw [rdns_len rrs]; exact hlen, ?_⟩
          have k1 : ∀ b o, H0 b = some o → upd H p (.lst (us ++ [.int 0])) b = some o := fun b o e => by
            rw [upd_ne (fun z => by rw [z, np0] at e; cases e)]; exact F.keep b o e
          exact L.rt true (.bool true) (.bl true) G0 _ ⟨Same.refl _, k1, sG.trans k1, fun _ _ e => .inl e⟩ (.sc rfl (.bl true)) q
noncomputable def ifX3 (sp : Sp3) (t : TA3) (te : TT3) (u r : TS3) : TS3 := fun A ρ => t ρ fun cs => optP (shs cs) fun p => sp p.2 (fun _ d => asD d fun k =>
  if k = true then te (weakE ρ) (fun k2 => if k2 = true then u { nx := fun _ => False, rt := A.rt } (weakE ρ) else r { nx := fun _ => False, rt := A.rt } (weakE ρ)) else u { nx := fun _ => False, rt := A.rt } (weakE ρ)) fun _ => False
theorem asD_of {d : D} {P : Bool → Prop} (h : asD d P) : ∃ k, d = .bool k ∧ P k := by
  cases d with
  | bool k => exact ⟨k, rfl, h⟩
  | _ => exact False.elim h
theorem z_if {e2 : Expr} {body rest : List Stmt} {te : TT3} {u r : TS3} {npos bpos ipos : Pos} (Gd : DfXS b X.prog X.w X.K X.mg X.base tb lp qn k x ps sp) (hr : Room k X.A) (hg : Gl X x) (ha : PA3 X H0 (e :: es) t)
    (h2 : ∀ H1, PT3 X H1 e2 te) (hb : ∀ H1, PSs3 X H1 body u) (hrest : ∀ H1, Lk tb lp qn H1 → PSs3 X H1 rest r) (hdb : (x == ("__debug__" : Str)) = false := by decide)
    (he : starEach (e :: es) X.env = (false, eval e X.env) :: starEach es X.env := by rfl) (hpl : (backTo cpos (starEach es X.env)).any (·.1) = false := by rfl)
    (hv : ∀ whole, isTrue (.Call (.Name x p) (e :: es) [] cpos) X.env whole = (do let v ← whole; standAt (Expr.Call (.Name x p) (e :: es) [] cpos).pos; holding [v] (truthy v)) := by intro _; rfl) :
    PSs X (.If (.BoolOp .Or [.UnaryOp .Not (.Call (.Name x p) (e :: es) [] cpos) npos, e2] bpos) body [] ipos :: rest) (liftMS b X.K H0 tb lp qn (ifX3 sp t te u r)) := by
  refine PSs.imp (pss_cons (ps_if (pw_or (pt_not (pt_val (pe_df (E := fun _ _ _ => False) Gd.ok hr hg pass_no ha.ok hdb he hpl) hv)) (pw_or1 (PT.ex fun H1 => (h2 H1).ok))).pt (PSs.ex (p := fun _ : Hp => True) fun H1 _ => hb H1) pss_nil) (PSs.ex hrest)) fun B σ H hyp => ?_
  obtain ⟨G0, A, ρ, G, F, hp, q, L⟩ := hyp
  refine ⟨G0, ρ, G, F, ha.mono ρ _ _ (fun cs hcs vs G1 H1 g1 w => ?_) q⟩
  show spXS b X.K tb lp qn sp (vs ++ []) H1 _ _
  rw [List.append_nil]
  obtain ⟨ds, e, q⟩ := optP_of hcs
  have F1 := F.gr g1
  have rr := w.shs e
  refine ⟨G1, ds.2, g1.sub, rr.rd, ⟨hp.1.same F1.keep, fun z => F1.gP hp.1 (hp.2 z)⟩, Gd.mono _ _ _ _ (fun f d kq HM mv v G' H' g rf => ?_) q⟩
  obtain ⟨H01, m0, g0⟩ := F1.mvGr hp.1 hp.2 mv
  have sG := F1.mvG hp.1 hp.2 HM mv
  have lk : Lk tb lp qn HM := mv.lk (hp.1.same F1.keep)
  have F2 := (F1.anew sG).gr g
  have rt : ∀ f d v G H, Gr G1 HM G H → Rf X.K HM G f v d → A.rt f d → B.rt v H := fun f' d' v' G2 H2 g2 rf2 q2 => (L H01 m0).rt f' d' v' G2 H2 (g0.trans g2) (rf2.h0 fun a _ _ n => g0.h.free n) q2
  obtain ⟨kk, rfl, kq⟩ := asD_of kq
  refine ⟨kk, vw_bool (H0 := HM) (.sh (f := true) (H := H') ⟨rf.rd, fun _ => rdn_scal rfl rf.rd⟩), ?_⟩
  cases kk with
  | false => exact ⟨HM, trivial, G1, { nx := fun _ => False, rt := A.rt }, _, G', F2, kq, ⟨fun _ _ _ _ _ z => z.elim, rt, fun _ _ _ _ _ z => z.elim, fun _ _ _ _ _ z => z.elim⟩⟩
  | true =>
    refine ⟨HM, G1, _, G', F2, (h2 HM).mono _ _ _ (fun k2 hk G2 H2 g2 => ?_) kq⟩
    cases k2 with
    | true => exact ⟨HM, trivial, G1, { nx := fun _ => False, rt := A.rt }, _, G2, F2.gr g2, hk, ⟨fun _ _ _ _ _ z => z.elim, rt, fun _ _ _ _ _ z => z.elim, fun _ _ _ _ _ z => z.elim⟩⟩
    | false => exact ⟨HM, lk, G1, { nx := fun _ => False, rt := A.rt }, _, G2, F2.gr g2, hk, ⟨fun _ _ _ _ _ z => z.elim, rt, fun _ _ _ _ _ z => z.elim, fun _ _ _ _ _ z => z.elim⟩⟩
end
end L3
namespace L3
open PySem PySem.Spec PyProof.Rows L2
theorem law_callXS {P : Program} {w : World} {K : PySem.W.Frag} {mg mb : Str → Option Value} {k : Nat} {fa a c0 tb : Addr} {fd : FuncData} {x : Str} {lp : Pos} {qn : Str} {sp : Sp3} {s₁ : Shared} {vs : List Value} {ns : List Int}
    (KX : K.In s₁.heap) (hns : s₁.heap.Ns mainGlobals mg) (hb : s₁.heap.Ns builtinsNs mb) (hbb : ∀ x : Str, x ≠ "__name__" → mb x = bootBuiltins x) (hlim : s₁.heap.NoLimit) (hg : s₁.gens = #[])
    (ha : s₁.heap.get? a = some { cls := .type "list", data := .seq vs.toArray }) (hi : IntsAre vs ns) (hl : ns.length ≤ sizeLine) (hr : Room k callerA)
    (ht : s₁.heap.get? tb = some (PySem.W.tabObj #[])) (hcd : PySem.W.CodeHd s₁.heap c0 tb) (hbm : BMod mg s₁.heap) (hKt : K.lookup tb = none)
    (F : ∀ base : Heap, K.In base → BMod mg base → FnOk P w K mg base (CXR P w) k fa fd [x] (spXS true K tb lp qn sp)) (hbind : ∀ (s : Shared) (u : Value), BindsTo s fd ⟨[u], []⟩ [(x, u)])
    (hsp : ∀ Q : Bool → D → Prop, (∀ f, Q f (.bool true)) → sp [.list (ns.map .int)] Q fun _ => False) :
    codeAny (model P w) callerA (.call (.ref fa) ⟨[.ref a], []⟩) (fun r s' => r = .ok (.ret (.bool true)) ∧ OldK s₁.heap s'.heap ∧ s'.os = s₁.os ∧ AllBare s'.gens) s₁ := by
  have rv := vals_ints hi
  have lenV := hi.length
  have hat : a ≠ tb := fun e => by rw [e, ht] at ha; cases ha
  -- what is tracked: the table, and the script, where it is not one of the module's own
  have core : ∀ H : Hp, SqL K H a (ns.map V.int) → HOk P w H s₁.heap → (∀ b o, H b = some o → (b = tb ∧ o = tab0 tb) ∨ (b = a ∧ K.lookup a = none ∧ ∃ ob xs, o = .frz ob (.lst xs))) → H tb = some (tab0 tb) →
      codeAny (model P w) callerA (.call (.ref fa) ⟨[.ref a], []⟩) (fun r s' => r = .ok (.ret (.bool true)) ∧ OldK s₁.heap s'.heap ∧ s'.os = s₁.os ∧ AllBare s'.gens) s₁ := by
    intro H hS hok hO hT
    have noD : ∀ {b : Addr} {o : Obj}, s₁.heap.get? b = some o → (∀ xs n, o.data ≠ .seq xs n) → o.cls ≠ .none → H b = none := fun {b o} e d c => by
      cases q : H b with
      | none => rfl
      | some u =>
        rcases hO b u q with ⟨rfl, _⟩ | ⟨rfl, _⟩
        · rw [ht] at e; cases e; exact absurd rfl c
        · rw [ha] at e; cases e; exact absurd rfl (d _ _)
    have noA : ∀ {b : Addr} {o : Obj} {es : Array DictEntry} {ep : Nat}, s₁.heap.get? b = some o → o.data = .dict es ep → H b = none := fun {b o es ep} e d => by
      cases q : H b with
      | none => rfl
      | some u =>
        rcases hO b u q with ⟨rfl, _⟩ | ⟨rfl, _⟩
        · rw [ht] at e; cases e; cases d
        · rw [ha] at e; cases e; cases d
    have base_of : ∀ {b : Addr} {o : Obj}, s₁.heap.get? b = some o → H b = none → (hidT s₁.heap H).get? b = some o := fun e n => hidT_get e n
    have nsK : ∀ {b : Addr} {m : Str → Option Value}, s₁.heap.Ns b m → (hidT s₁.heap H).Ns b m := fun {b m} ⟨o, es, ep, e, d, r⟩ => ⟨o, es, ep, base_of e (noA e d), d, r⟩
    have hKb : K.In (hidT s₁.heap H) := fun b o e => base_of (KX b o e) (by
      cases q : H b with
      | none => rfl
      | some u =>
        rcases hO b u q with ⟨rfl, _⟩ | ⟨rfl, h2, _⟩
        · rw [hKt] at e; cases e
        · rw [h2] at e; cases e)
    have hM : Mod K mg (hidT s₁.heap H) := ⟨hKb, nsK hns, ⟨mb, nsK hb, hbb⟩, let ⟨mc, h1, h2⟩ := hlim; ⟨mc, nsK h1, h2⟩⟩
    have hB : BMod mg (hidT s₁.heap H) := by
      obtain ⟨bm, o, h1, h2, h3, h4, h5, h6, h7⟩ := hbm
      exact ⟨bm, o, h1, h2, h3, base_of h4 (noD h4 (fun xs n z => by rw [h7] at z; cases z) (by rw [h5]; nofun)), h5, h6, h7⟩
    have e0 : Env0 P w K mg (hidT s₁.heap H) callerA [] s₁ H := ⟨rfl, hM, fun b o e => of_hidT e, Nat.le_of_eq (hidT_size _ _), trivial, fun b hb => absurd (show b ∈ ([] : List Addr) from hb) (by simp), hok, .of_eq hg⟩
    -- the frozen part: all but the table
    have sG : Same (fun b => if b = tb then none else H b) H := fun b o e => by
      by_cases hb : b = tb
      · have e : (if b = tb then none else H b) = some o := e
        rw [if_pos hb] at e; cases e
      · have e : (if b = tb then none else H b) = some o := e
        rw [if_neg hb] at e; exact e
    have hSG : SqL K (fun b => if b = tb then none else H b) a (ns.map V.int) := by
      rcases hS with (h | ⟨o, h⟩) | h
      · exact .inl (.inl ((if_neg hat).trans h))
      · exact .inl (.inr ⟨o, (if_neg hat).trans h⟩)
      · exact .inr h
    refine codeAny_mono ((F _ hKb hB).run callerA [] s₁ H ⟨[.ref a], []⟩ [.ref a] [.ref a] (fun v H' => v = .bl true ∧ ∃ c', H' tb = some (tabA tb c' lp)) (fun _ _ _ => False) hr e0 (hbind s₁ (.ref a)) (.cons rfl .nil) ⟨fun b => if b = tb then none else H b, [.list (ns.map .int)], sG, .cons (.lst hSG (ints_rd ns)) .nil, ⟨hT, fun _ => if_pos rfl⟩, hsp _ fun f H1 mv v G' H' g r => ⟨rdv_bool r.rd, ?mv⟩⟩) fun r s' h => ?rs
    case mv =>
      obtain ⟨c', h1, _⟩ := MvS.lk (b := true) hT mv
      exact ⟨c', g.h _ _ h1⟩
    cases r with
    | error e =>
      obtain ⟨_, _, _, _, _, hf⟩ := h
      exact hf.elim
    | ok fl =>
      cases fl with
      | next => exact False.elim h
      | brk => exact False.elim h
      | cont => exact False.elim h
      | ret u =>
        obtain ⟨v, H', os, bare, un, hok', r', q⟩ := h
        obtain ⟨q', c', hT'⟩ : v = .bl true ∧ ∃ c', H' tb = some (tabA tb c' lp) := q
        subst q'
        obtain rfl : u = Value.bool true := r'
        have keepB : ∀ b o, b ≠ tb → s₁.heap.get? b = some o → s'.heap.get? b = some o := fun b o hb e => by
          cases q : H b with
          | none => exact un.keep b o e q (by intro z; exact absurd (show b ∈ ([] : List Addr) from z) (by simp)) (by simp)
          | some u =>
            rcases hO b u q with ⟨z, _⟩ | ⟨_, _, ob, xs, z⟩
            · exact absurd z hb
            · rw [z] at q
              have z2 := un.frzs b ob _ q
              obtain ⟨e1, _⟩ := hok b _ q
              obtain ⟨e2, _⟩ := hok' b _ z2
              rw [e] at e1; cases e1
              exact e2
        obtain ⟨⟨ps, ep, _⟩, _, _⟩ := hok' tb _ hT'
        refine ⟨rfl, ⟨fun b o e => ?_, fun b o e => ?_⟩, os, bare⟩
        · by_cases hb : b = tb
          · subst hb
            rw [ht] at e; cases e
            exact .inr (.inl ⟨(hcd.tab ht).isCodeTable, rfl, #[], ps, rfl, by rw [ep]; simp⟩)
          · exact .inl (keepB b o hb e)
        · by_cases hb : b = tb
          · subst hb; exact ⟨_, ep⟩
          · exact ⟨o, keepB b o hb e⟩
  have tok : ∀ (H : Hp), ObjOk P w H s₁.heap tb (tab0 tb) := fun H => ⟨ht, ⟨_, ht⟩, fun h1 h2 e k => k _ e⟩
  cases hk : K.lookup a with
  | some o =>
    have e := KX a o hk
    rw [ha] at e
    cases e
    refine core (fun b => if b = tb then some (tab0 tb) else none) (.inr ⟨_, vs.toArray, _, hk, rfl, rfl, rfl, by rw [List.size_toArray, lenV]; exact hl, by simpa using rv⟩) (fun b u z => ?_) (fun b o z => ?_) (if_pos rfl)
    · by_cases hb : b = tb
      · have z' := (if_pos hb).symm.trans z
        cases z'
        subst hb
        exact tok _
      · have z' := (if_neg hb).symm.trans z
        cases z'
    · by_cases hb : b = tb
      · have z' := (if_pos hb).symm.trans z
        cases z'
        exact .inl ⟨hb, rfl⟩
      · have z' := (if_neg hb).symm.trans z
        cases z'
  | none =>
    refine core (fun b => if b = tb then some (tab0 tb) else if b = a then some (.frz { cls := .type "list", data := .seq vs.toArray } (.lst (ns.map V.int))) else none) (.inl (.inr ⟨{ cls := .type "list", data := .seq vs.toArray }, (if_neg hat).trans (if_pos rfl)⟩)) (fun b u z => ?_) (fun b o z => ?_) (if_pos rfl)
    · by_cases hb : b = tb
      · have z' := (if_pos hb).symm.trans z
        cases z'
        subst hb
        exact tok _
      · have z1 := (if_neg hb).symm.trans z
        by_cases hb : b = a
        · have z' := (if_pos hb).symm.trans z1
          cases z'
          subst hb
          exact ⟨ha, by rw [List.length_map]; exact hl, vs, _, rv, ha⟩
        · have z' := (if_neg hb).symm.trans z1
          cases z'
    · by_cases hb : b = tb
      · have z' := (if_pos hb).symm.trans z
        cases z'
        exact .inl ⟨hb, rfl⟩
      · have z1 := (if_neg hb).symm.trans z
        by_cases hb : b = a
        · have z' := (if_pos hb).symm.trans z1
          cases z'
          exact .inr ⟨hb, hk, _, _, rfl⟩
        · have z' := (if_neg hb).symm.trans z1
          cases z'
theorem walk_ofXS {l : PySem.W.OpenLaw} {n k : Nat} {q : Program} {loose : List Str} {XP : (Str → Option Value) → Heap → Prop} {YP : World → Heap → Prop} {d dd : DefRec} {K : Params → PySem.W.Frag} {sp : Sp3} {x dn : Str} {lp : Pos} {qn : Str}
    (hn : l.most = some n) (hn2 : n ≤ sizeLine) (hdf : d.params.defaults = []) (hr : Room k callerA) (hY : ∀ (w : World) (h : Heap), YP w h → (K w.params).In h) (hrec : (recsOf q).find? (fun e => e.name == dn) = some dd)
    (F : ∀ (w : World) (mg : Str → Option Value) (fa : Addr) (h : Heap), (K w.params).In h → h.Ns mainGlobals mg → mg d.name = some (.ref fa) →
      ∃ (fd : FuncData) (c0 tb : Addr), (∀ (s : Shared) (u : Value), BindsTo s fd ⟨[u], []⟩ [(x, u)]) ∧ PySem.W.tabIn (K w.params) dn = some (c0, tb) ∧ (K w.params).lookup tb = none ∧
        ∀ base : Heap, (K w.params).In base → BMod mg base → FnOk l.prog w (K w.params) mg base (CXR l.prog w) k fa fd [x] (spXS true (K w.params) tb lp qn sp))
    (hsp : ∀ (ns : List Int), ns.length ≤ n → ∀ Q : Bool → D → Prop, (∀ f, Q f (.bool true)) → sp [.list (ns.map .int)] Q fun _ => False) :
    PySem.W.WalkO q loose XP YP l.row.toRowW d [] (fun f vs => PySem.call f vs) := by
  refine Att.attach_call hn hdf fun w s₀ s₁ mg mb fa o pm cd doc a vs ns G Y ho hd hcd hmg hobj hints hlen hg => ?_
  have KX := hY w _ Y
  obtain ⟨fd, c0, tb, hb, htab, hKt, hF⟩ := F w mg fa _ KX G.T.g hmg
  obtain ⟨hc, ht⟩ := PySem.W.tab_of G.T KX hrec htab
  exact law_callXS KX G.T.g G.T.b G.T.builtins G.T.nolimit hg hobj hints (Nat.le_trans hlen hn2) hr ht hc (bmod_of G.T) hKt hF hb (hsp ns hlen)
end L3
open PySem PySem.Spec PyProof.Rows L2
namespace Law
open PySem L2 L3
theorem arity1 {α : Type} {us : List α} (h : us.length = 1) : ∃ a0, us = [a0] := match us, h with | [a0], _ => ⟨a0, rfl⟩
theorem arity2 {α : Type} {us : List α} (h : us.length = 2) : ∃ a0 a1, us = [a0, a1] := match us, h with | [a0, a1], _ => ⟨a0, a1, rfl⟩
theorem arity3 {α : Type} {us : List α} (h : us.length = 3) : ∃ a0 a1 a2, us = [a0, a1, a2] := match us, h with | [a0, a1, a2], _ => ⟨a0, a1, a2, rfl⟩
noncomputable def top (i : Nat) : Stmt := PySem.Challenge.pw_chairclans_k14_dealt_due_first.main.body.getD i (.Pass ⟨0, 0, 0, 0⟩)
noncomputable abbrev s_law_cell_at : Stmt := top 7
noncomputable abbrev s_law_of_clan : Stmt := top 9
noncomputable abbrev s_law_drawn_at : Stmt := top 8
noncomputable abbrev s_law_visits : Stmt := top 10
noncomputable abbrev s_law_first : Stmt := top 11
noncomputable abbrev s_law_dealt : Stmt := top 12
noncomputable abbrev s_is_late : Stmt := top 3
noncomputable abbrev s_place_of_opened : Stmt := top 2
noncomputable abbrev s_start_of_crowd : Stmt := top 4
noncomputable abbrev s_pressing : Stmt := top 1
noncomputable abbrev s_deal : Stmt := top 5
noncomputable abbrev s_law_whole : Stmt := top 13
noncomputable abbrev s_law_told : Stmt := top 14
noncomputable abbrev s_law : Stmt := top 15
noncomputable abbrev lamP : Pos := match defBody s_deal with
  | .Assign _ (.Call _ _ [⟨_, .Lambda _ _ _ lp, _⟩] _) _ :: _ => lp
  | _ => ⟨0, 0, 0, 0⟩
noncomputable abbrev lamQ : Str := (envOfC "deal" (defScope s_deal) 0 0 .none).qual ++ "<lambda>"
structure Cl where
  none_ : Addr
  c0 : Addr
  tb : Addr
structure Txt (c : Law.Cl) (K : PySem.W.Frag) (mg : Str → Option Value) : Prop where
  d_law_cell_at : ∃ f fd, Fun K "_law_cell_at" "_law_cell_at" s_law_cell_at f fd ∧ mg "_law_cell_at" = some (.ref f)
  d_law_of_clan : ∃ f fd, Fun K "_law_of_clan" "_law_of_clan" s_law_of_clan f fd ∧ mg "_law_of_clan" = some (.ref f)
  d_law_drawn_at : ∃ f fd, Fun K "_law_drawn_at" "_law_drawn_at" s_law_drawn_at f fd ∧ mg "_law_drawn_at" = some (.ref f)
  d_law_visits : ∃ f fd, Fun K "_law_visits" "_law_visits" s_law_visits f fd ∧ mg "_law_visits" = some (.ref f)
  d_law_first : ∃ f fd, Fun K "_law_first" "_law_first" s_law_first f fd ∧ mg "_law_first" = some (.ref f)
  d_law_dealt : ∃ f fd, Fun K "_law_dealt" "_law_dealt" s_law_dealt f fd ∧ mg "_law_dealt" = some (.ref f)
  d_is_late : ∃ f fd, Fun K "is_late" "is_late" s_is_late f fd ∧ mg "is_late" = some (.ref f)
  d_place_of_opened : ∃ f fd, Fun K "place_of_opened" "place_of_opened" s_place_of_opened f fd ∧ mg "place_of_opened" = some (.ref f)
  d_start_of_crowd : ∃ f fd, Fun K "start_of_crowd" "start_of_crowd" s_start_of_crowd f fd ∧ mg "start_of_crowd" = some (.ref f)
  d_pressing : ∃ f fd, Fun K "pressing" "pressing" s_pressing f fd ∧ mg "pressing" = some (.ref f)
  d_deal : ∃ f fd, Fun K "deal" "deal" s_deal f fd ∧ mg "deal" = some (.ref f)
  d_law_whole : ∃ f fd, Fun K "_law_whole" "_law_whole" s_law_whole f fd ∧ mg "_law_whole" = some (.ref f)
  d_law_told : ∃ f fd, Fun K "_law_told" "_law_told" s_law_told f fd ∧ mg "_law_told" = some (.ref f)
  d_law : ∃ f fd, Fun K "law" "law" s_law f fd ∧ mg "law" = some (.ref f)
  x_deal : ∃ f fd, Fun K "deal" "deal" s_deal f fd ∧ mg "deal" = some (.ref f) ∧ fd.code = .ref c.c0
  hdC : ∀ h, K.In h → PySem.W.CodeHd h c.c0 c.tb
  tab : PySem.W.tabIn K "deal" = some (c.c0, c.tb)
  nop : K.lookup c.tb = none
  n_all : mg "all" = none
  n_bool : mg "bool" = none
  n_enumerate : mg "enumerate" = none
  n_int : mg "int" = none
  n_isinstance : mg "isinstance" = none
  n_len : mg "len" = none
  n_list : mg "list" = none
  n_min : mg "min" = none
  n_range : mg "range" = none
  n_sorted : mg "sorted" = none
  n_tuple : mg "tuple" = none

noncomputable def dI (ns : List Int) : D := .list (ns.map .int)
theorem c64 : CPowB 10 64 := powB (k := 4) (by unfold Bits; decide) (by decide) (by decide)
theorem divQ {i j : Int} (h : 0 < j := by decide) (hb : j.natAbs < 2 ^ 64 := by decide) : CDivP i j := ⟨h, Bits.mono (j := 64) hb (by decide)⟩
theorem for_enum {g : TG3} {tb : TS3} {A : Ends3} {f : Bool} {enc : Nat → D} {n : Nat} (P : Nat → Env3 → Prop) (s : ∀ k ρ, k < n → P k ρ → ∀ W : Env3 → Prop, (∀ ρ', P (k + 1) ρ' → W ρ') → g f (enc k) ρ fun ρ' => tb { A with nx := W, ct := W, bk := A.nx } ρ') (e : ∀ ρ, P n ρ → A.nx ρ) {ρ : Env3} (h : P 0 ρ) : forL g tb A f ((List.range n).map enc) ρ := by
  refine for_list enc (List.range n) (fun done ρ => P done.length ρ) (fun done x rest ρ hd hp W hW => ?_) (fun ρ hp => e ρ (by rw [List.length_range] at hp; exact hp)) h
  have hx : x = done.length := by
    have h1 : (List.range n)[done.length]? = some x := by rw [hd]; simp
    have h2 : done.length < n := by have := congrArg List.length hd; simp at this; omega
    rw [List.getElem?_range h2] at h1
    exact (Option.some.inj h1).symm
  subst hx
  have h2 : done.length < n := by have := congrArg List.length hd; simp at this; omega
  exact s done.length ρ h2 hp W fun ρ' hp' => hW ρ' (by rw [List.length_append]; exact hp')
noncomputable abbrev Win := Int × Int × Int × Option Int
noncomputable def dO : Option Int → D
  | none => .none
  | some i => .int i
noncomputable def dW (w : Win) : D := .tuple [.int w.1, .int w.2.1, .int w.2.2.1, dO w.2.2.2]

noncomputable def dV (s : Win) : D := .tuple [.int s.2.2.1, dO s.2.2.2]
theorem len_le_of_sub {α : Type} [DecidableEq α] : ∀ {L M : List α}, L.Nodup → (∀ x ∈ L, x ∈ M) → L.length ≤ M.length
  | [], _, _, _ => Nat.zero_le _
  | a :: L, M, nd, h => by
    have ha := h a List.mem_cons_self
    have := len_le_of_sub (L := L) (M := M.erase a) (List.nodup_cons.mp nd).2 fun x hx => by
      have hne : x ≠ a := fun e => (List.nodup_cons.mp nd).1 (e ▸ hx)
      exact (List.mem_erase_of_ne hne).mpr (h x (List.mem_cons_of_mem _ hx))
    rw [List.length_erase_of_mem ha] at this
    have h1 : 0 < M.length := List.length_pos_of_mem ha
    rw [List.length_cons]; omega
noncomputable def cnt (row : List Int) (c : Int) : Int := ((row.filter fun x => decide (x = c)).length : Int)
theorem cnt_nil (c : Int) : cnt [] c = 0 := rfl
theorem cnt_snoc (r : List Int) (x c : Int) : cnt (r ++ [x]) c = cnt r c + if x = c then 1 else 0 := by
  unfold cnt
  rw [List.filter_append, List.length_append]
  by_cases e : x = c
  · simp [e]
  · simp [e]
theorem cnt_app (r s : List Int) (c : Int) : cnt r c ≤ cnt (r ++ s) c := by
  unfold cnt
  rw [List.filter_append, List.length_append]; omega
theorem cnt_take (r : List Int) {i j : Nat} (h : i ≤ j) (c : Int) : cnt (r.take i) c ≤ cnt (r.take j) c := by
  have : r.take j = r.take i ++ (r.take j).drop i := by
    have := List.take_append_drop i (r.take j)
    rw [List.take_take, Nat.min_eq_left h] at this
    exact this.symm
  rw [this]; exact cnt_app _ _ _
theorem take_snoc {r : List Int} {k : Nat} (h : k < r.length) : r.take (k + 1) = r.take k ++ [r.getD k 0] := by
  rw [List.take_add_one, List.getElem?_eq_getElem h, List.getD_eq_getElem?_getD, List.getElem?_eq_getElem h]; rfl
theorem cnt_step {r : List Int} {k : Nat} (h : k < r.length) (c : Int) : cnt (r.take (k + 1)) c = cnt (r.take k) c + if r.getD k 0 = c then 1 else 0 := by
  rw [take_snoc h, cnt_snoc]
noncomputable def keyR (row : List Int) (k : Nat) : Int × Int := (row.getD k 0, cnt (row.take (k + 1)) (row.getD k 0))
noncomputable def keyW (v : Win) : Int × Int := (v.1, v.2.1)
noncomputable def lastOk (t : Int) : Option Int → Prop
  | none => True
  | some x => t ≤ x
noncomputable def FitsR (V : List Win) (row : List Int) : Prop :=
  (∀ k, k < row.length → ∃ v ∈ V, keyW v = keyR row k ∧ v.2.2.1 ≤ (k : Int) + 1 ∧ lastOk ((k : Int) + 1) v.2.2.2) ∧ ∀ v ∈ V, v.2.2.2 ≠ none → v.2.1 ≤ cnt row v.1
theorem keyR_inj {row : List Int} {i j : Nat} (hj : j < row.length) (h : i < j) : keyR row i ≠ keyR row j := fun e => by
  have e1 : row.getD i 0 = row.getD j 0 := congrArg Prod.fst e
  have e2 : cnt (row.take (i + 1)) (row.getD i 0) = cnt (row.take (j + 1)) (row.getD j 0) := congrArg Prod.snd e
  rw [e1, cnt_step hj, if_pos rfl] at e2
  have := cnt_take row (show i + 1 ≤ j by omega) (row.getD j 0)
  omega
theorem cnt_at {row : List Int} {c : Int} : ∀ (n : Nat), n ≤ row.length → ∀ j : Int, 1 ≤ j → j ≤ cnt (row.take n) c → ∃ k, k < n ∧ keyR row k = (c, j)
  | 0, _, j, h1, h2 => by rw [List.take_zero, cnt_nil] at h2; omega
  | n + 1, hn, j, h1, h2 => by
    have hs := cnt_step (r := row) (k := n) (by omega) c
    by_cases hj : j ≤ cnt (row.take n) c
    · obtain ⟨k, hk, e⟩ := cnt_at n (by omega) j h1 hj
      exact ⟨k, by omega, e⟩
    · by_cases hc : row.getD n 0 = c
      · rw [if_pos hc] at hs
        refine ⟨n, by omega, ?_⟩
        unfold keyR
        rw [hc, hs]
        have : j = cnt (row.take n) c + 1 := by omega
        rw [this]
      · rw [if_neg hc] at hs; omega
noncomputable def kl (T : Int) (v : Win) : Int := v.2.2.2.getD (T + 1)
structure OkVs (T : Int) (V : List Win) : Prop where
  nd : (V.map keyW).Nodup
  one : ∀ v ∈ V, 1 ≤ v.2.1 ∧ 1 ≤ v.2.2.1
  pre : ∀ v ∈ V, ∀ i, 1 ≤ i → i < v.2.1 → ∃ u ∈ V, keyW u = (v.1, i)
  ord : ∀ u ∈ V, ∀ v ∈ V, u.1 = v.1 → u.2.1 < v.2.1 → u.2.2.1 ≤ v.2.2.1 ∧ kl T u ≤ kl T v
  top : ∀ v ∈ V, ∀ x, v.2.2.2 = some x → x ≤ T
theorem key_inj {V : List Win} (nd : (V.map keyW).Nodup) {u v : Win} (hu : u ∈ V) (hv : v ∈ V) (e : keyW u = keyW v) : u = v := by
  induction V with
  | nil => cases hu
  | cons a r ih =>
    rw [List.map_cons, List.nodup_cons] at nd
    rcases List.mem_cons.mp hu with hu | hu <;> rcases List.mem_cons.mp hv with hv | hv
    · rw [hu, hv]
    · exact absurd (List.mem_map.mpr ⟨v, hv, by rw [← e, hu]⟩) nd.1
    · exact absurd (List.mem_map.mpr ⟨u, hu, by rw [e, hv]⟩) nd.1
    · exact ih nd.2 hu hv
theorem lack_no {V : List Win} {t : Nat} (h : (V.filter fun v => decide (v.2.2.1 ≤ (t : Int))).length < t) {row : List Int} (ht : t ≤ row.length) (hf : FitsR V row) : False := by
  have nd : ((List.range t).map (keyR row)).Nodup := by
    rw [List.nodup_iff_pairwise_ne, List.pairwise_map]
    refine (List.pairwise_lt_range (n := t)).imp_of_mem fun {a b} ha hb hab => keyR_inj ?_ hab
    have := List.mem_range.mp hb; omega
  have := len_le_of_sub (M := (V.filter fun v => decide (v.2.2.1 ≤ (t : Int))).map keyW) nd fun x hx => by
    obtain ⟨k, hk, rfl⟩ := List.mem_map.mp hx
    have hk := List.mem_range.mp hk
    obtain ⟨v, hv, e, h1, _⟩ := hf.1 k (by omega)
    exact List.mem_map.mpr ⟨v, List.mem_filter.mpr ⟨hv, decide_eq_true (by omega)⟩, e⟩
  rw [List.length_map, List.length_map, List.length_range] at this
  omega
noncomputable def inCrowd (a b : Int) (v : Win) : Bool := match v.2.2.2 with
  | none => false
  | some x => decide (a ≤ v.2.2.1) && decide (x ≤ b)
theorem crowd_no {T : Int} {V : List Win} (ok : OkVs T V) {a b : Int} (ha : 1 ≤ a) (h : max 0 (b - a + 1) < ((V.filter (inCrowd a b)).length : Int)) {row : List Int} (hf : FitsR V row) : False := by
  have nd : ((V.filter (inCrowd a b)).map keyW).Nodup := ok.nd.sublist (List.filter_sublist.map _)
  have := len_le_of_sub (M := (List.range (b - a + 1).toNat).map fun i => keyR row (a.toNat - 1 + i)) nd fun x hx => by
    obtain ⟨v, hv, rfl⟩ := List.mem_map.mp hx
    obtain ⟨hv, hc⟩ := List.mem_filter.mp hv
    unfold inCrowd at hc
    cases hl : v.2.2.2 with
    | none => rw [hl] at hc; cases hc
    | some x =>
      rw [hl] at hc
      simp only [Bool.and_eq_true, decide_eq_true_eq] at hc
      have h1 := hf.2 v hv (by rw [hl]; nofun)
      obtain ⟨k, hk, e⟩ := cnt_at (row := row) (c := v.1) row.length (Nat.le_refl _) v.2.1 (ok.one v hv).1 (by rw [List.take_length]; exact h1)
      obtain ⟨u, hu, e2, o, l⟩ := hf.1 k hk
      have : u = v := key_inj ok.nd hu hv (e2.trans e)
      subst this
      rw [hl] at l
      have l : (k : Int) + 1 ≤ x := l
      exact List.mem_map.mpr ⟨k + 1 - a.toNat, List.mem_range.mpr (by omega), by rw [show a.toNat - 1 + (k + 1 - a.toNat) = k by omega]; exact e2.symm⟩
  rw [List.length_map, List.length_map, List.length_range] at this
  omega
noncomputable def less (T : Int) (u v : Win) : Prop := kl T u < kl T v ∨ kl T u = kl T v ∧ (u.1 < v.1 ∨ u.1 = v.1 ∧ u.2.1 < v.2.1)
structure Dealt (T : Int) (V wait given : List Win) : Prop where
  perm : (given ++ wait).Perm V
  srt : wait.Pairwise (less T)
  got : ∀ pre v post, given = pre ++ v :: post → v.2.2.1 ≤ (pre.length : Int) + 1 ∧ (pre.length : Int) + 1 ≤ kl T v ∧ ∀ u ∈ post ++ wait, less T u v → (pre.length : Int) + 1 < u.2.2.1
noncomputable def lateW (w : List Win) (g : Int) : Bool := match w with
  | [] => false
  | v :: _ => match v.2.2.2 with
    | none => false
    | some x => decide (x ≤ g)
noncomputable def placeW (t : Int) : List Win → Option Nat
  | [] => none
  | v :: r => if v.2.2.1 ≤ t then some 0 else (placeW t r).map (· + 1)
theorem placeW_none {t : Int} : ∀ {w : List Win}, placeW t w = none → ∀ v ∈ w, t < v.2.2.1
  | [], _, v, hv => by cases hv
  | a :: r, h, v, hv => by
    unfold placeW at h
    split at h
    · cases h
    · rename_i hn
      rcases List.mem_cons.mp hv with z | z
      · subst z; omega
      · exact placeW_none (Option.map_eq_none_iff.mp h) v z
theorem placeW_some {t : Int} : ∀ {w : List Win} {p : Nat}, placeW t w = some p → ∃ pre v post, w = pre ++ v :: post ∧ pre.length = p ∧ v.2.2.1 ≤ t ∧ ∀ u ∈ pre, t < u.2.2.1
  | [], p, h => by cases h
  | a :: r, p, h => by
    unfold placeW at h
    split at h
    · rename_i hn
      cases h
      exact ⟨[], a, r, rfl, rfl, hn, fun u hu => by cases hu⟩
    · rename_i hn
      obtain ⟨q, hq, rfl⟩ := Option.map_eq_some_iff.mp h
      obtain ⟨pre, v, post, e, hl, ho, hu⟩ := placeW_some hq
      exact ⟨a :: pre, v, post, by rw [e]; rfl, by rw [List.length_cons, hl], ho, fun u h => by
        rcases List.mem_cons.mp h with z | z
        · subst z; omega
        · exact hu u z⟩
theorem less_asymm {T : Int} {u v : Win} (h : less T u v) (h' : less T v u) : False := by
  unfold less at h h'; omega
theorem less_kl {T : Int} {u v : Win} (h : less T u v) : kl T u ≤ kl T v := by
  unfold less at h; omega
theorem late_kl {T g : Int} (hg : g ≤ T) {w : List Win} (h : lateW w g = false) (s : w.Pairwise (less T)) : ∀ v ∈ w, g + 1 ≤ kl T v := by
  cases w with
  | nil => intro v hv; cases hv
  | cons a r =>
    have ha : g + 1 ≤ kl T a := by
      have h : (match a.2.2.2 with | none => false | some x => decide (x ≤ g)) = false := h
      unfold kl
      cases e : a.2.2.2 with
      | none => show g + 1 ≤ T + 1; omega
      | some x =>
        rw [e] at h
        have := of_decide_eq_false h
        show g + 1 ≤ x
        omega
    intro v hv
    rcases List.mem_cons.mp hv with z | z
    · subst z; exact ha
    · have := less_kl ((List.pairwise_cons.mp s).1 v z); omega
theorem Dealt.start {T : Int} {V w : List Win} (p : w.Perm V) (s : w.Pairwise (less T)) : Dealt T V w [] := ⟨p, s, fun pre v post e => by cases pre <;> cases e⟩
theorem Dealt.step {T : Int} {V wait given : List Win} (d : Dealt T V wait given) (hg : (given.length : Int) ≤ T) (hl : lateW wait given.length = false) {p : Nat} (hp : placeW ((given.length : Int) + 1) wait = some p) :
    ∃ v, wait[p]? = some v ∧ Dealt T V (wait.eraseIdx p) (given ++ [v]) := by
  obtain ⟨pre, v, post, e, hlen, ho, hu⟩ := placeW_some hp
  have hk := late_kl hg hl d.srt
  subst e
  subst hlen
  have er : (pre ++ v :: post).eraseIdx pre.length = pre ++ post := by
    rw [List.eraseIdx_append_of_length_le (Nat.le_refl _)]; simp
  refine ⟨v, by simp, ?_⟩
  rw [er]
  have sp := List.pairwise_append.mp d.srt
  refine ⟨?_, ?_, ?_⟩
  · refine List.Perm.trans ?_ d.perm
    rw [List.append_assoc]
    exact List.Perm.append_left _ (show (v :: (pre ++ post)).Perm _ from List.perm_middle.symm)
  · exact d.srt.sublist (List.Sublist.append_left (List.sublist_cons_self _ _) _)
  · intro pre' x post' ee
    rcases List.eq_nil_or_concat post' with z | ⟨q, y, z⟩
    · subst z
      have e1 := List.append_inj' ee rfl
      obtain ⟨e1, e2⟩ := e1
      cases e2
      subst e1
      refine ⟨by omega, hk v (by simp), fun u hm hlt => ?_⟩
      rw [List.nil_append] at hm
      rcases List.mem_append.mp hm with z | z
      · exact hu u z
      · exact absurd ((List.pairwise_cons.mp sp.2.1).1 u z) fun q => less_asymm hlt q
    · rw [List.concat_eq_append] at z
      subst z
      have e0 : given ++ [v] = (pre' ++ x :: q) ++ [y] := by rw [ee]; simp
      obtain ⟨e1, e2⟩ := List.append_inj' e0 rfl
      cases e2
      obtain ⟨a1, a2, a3⟩ := d.got pre' x q e1
      refine ⟨a1, a2, fun u hm hlt => a3 u ?_ hlt⟩
      simp only [List.mem_append, List.mem_cons, List.not_mem_nil, or_false] at hm ⊢
      rcases hm with (z | z) | z | z
      · exact .inl z
      · exact .inr (.inr (.inl z))
      · exact .inr (.inl z)
      · exact .inr (.inr (.inr z))
theorem Dealt.mem {T : Int} {V wait given : List Win} (d : Dealt T V wait given) {v : Win} : v ∈ V ↔ v ∈ given ∨ v ∈ wait := by
  rw [← d.perm.mem_iff, List.mem_append]
theorem Dealt.lack {T : Int} {V wait given : List Win} (d : Dealt T V wait given) (hp : placeW ((given.length : Int) + 1) wait = none) : (V.filter fun v => decide (v.2.2.1 ≤ ((given.length + 1 : Nat) : Int))).length < given.length + 1 := by
  have hn := placeW_none hp
  have h1 := (d.perm.filter fun v => decide (v.2.2.1 ≤ ((given.length + 1 : Nat) : Int))).length_eq
  rw [← h1, List.filter_append, List.length_append]
  have h2 : (wait.filter fun v => decide (v.2.2.1 ≤ ((given.length + 1 : Nat) : Int))) = [] := List.filter_eq_nil_iff.mpr fun v hv => by
    have := hn v hv
    simp only [decide_eq_true_eq]; omega
  rw [h2]
  have := List.length_filter_le (fun v : Win => decide (v.2.2.1 ≤ ((given.length + 1 : Nat) : Int))) given
  simp only [List.length_nil]; omega
noncomputable def startW (b : Int) : List Win → Int → Int → Int
  | [], _, a => a
  | v :: r, t, a => startW b r (t + 1) (match v.2.2.2 with | none => t + 1 | some x => if b < x then t + 1 else a)
noncomputable def outW (b : Int) (v : Win) : Bool := match v.2.2.2 with
  | none => true
  | some x => decide (b < x)
theorem startW_eq (b : Int) (v : Win) (r : List Win) (t a : Int) : startW b (v :: r) t a = startW b r (t + 1) (if outW b v = true then t + 1 else a) := by
  show startW b r (t + 1) _ = _
  congr 1
  unfold outW
  cases v.2.2.2 with
  | none => rfl
  | some x => simp
theorem startW_spec (b : Int) : ∀ (r : List Win) (t a : Int), (startW b r t a = a ∧ ∀ v ∈ r, outW b v = false) ∨ ∃ pre v post, r = pre ++ v :: post ∧ outW b v = true ∧ (∀ u ∈ post, outW b u = false) ∧ startW b r t a = t + pre.length + 1
  | [], t, a => .inl ⟨rfl, fun v h => by cases h⟩
  | v :: r, t, a => by
    rw [startW_eq]
    rcases startW_spec b r (t + 1) (if outW b v = true then t + 1 else a) with ⟨h1, h2⟩ | ⟨pre, u, post, e, h1, h2, h3⟩
    · by_cases hv : outW b v = true
      · rw [if_pos hv] at h1 ⊢
        exact .inr ⟨[], v, r, rfl, hv, h2, by rw [h1]; simp⟩
      · rw [if_neg hv] at h1 ⊢
        exact .inl ⟨h1, fun u hu => by
          rcases List.mem_cons.mp hu with z | z
          · subst z; simpa using hv
          · exact h2 u z⟩
    · exact .inr ⟨v :: pre, u, post, by rw [e]; rfl, h1, h2, by rw [h3, List.length_cons]; omega⟩
theorem out_kl {T b : Int} (hb : b ≤ T) {v : Win} (h : outW b v = true) : b < kl T v := by
  unfold outW at h; unfold kl
  cases e : v.2.2.2 with
  | none => show b < T + 1; omega
  | some x => rw [e] at h; exact of_decide_eq_true h
theorem in_kl {T b : Int} {v : Win} (h : outW b v = false) : ∃ x, v.2.2.2 = some x ∧ x ≤ b ∧ kl T v = x := by
  unfold outW at h; unfold kl
  cases e : v.2.2.2 with
  | none => rw [e] at h; cases h
  | some x => rw [e] at h; have := of_decide_eq_false h; exact ⟨x, rfl, by omega, rfl⟩
theorem crowd_of {a b : Int} {v : Win} (h : outW b v = false) (ho : a ≤ v.2.2.1) : inCrowd a b v = true := by
  obtain ⟨x, e, hx, _⟩ := in_kl (T := 0) h
  unfold inCrowd
  rw [e]
  simp [ho, hx]
theorem Dealt.crowd {T : Int} {V wait given : List Win} (ok : OkVs T V) (d : Dealt T V wait given) (hg : (given.length : Int) ≤ T) (hl : lateW wait given.length = true) :
    1 ≤ startW given.length given 1 1 ∧ max 0 ((given.length : Int) - startW given.length given 1 1 + 1) < ((V.filter (inCrowd (startW given.length given 1 1) given.length)).length : Int) := by
  cases wait with
  | nil => cases hl
  | cons w0 wr =>
    have hw : outW given.length w0 = false := by
      have hl : (match w0.2.2.2 with | none => false | some x => decide (x ≤ (given.length : Int))) = true := hl
      unfold outW
      cases e : w0.2.2.2 with
      | none => rw [e] at hl; cases hl
      | some x => rw [e] at hl; have := of_decide_eq_true hl; exact decide_eq_false (by omega)
    have hw0 : w0 ∈ V := d.mem.mpr (.inr List.mem_cons_self)
    obtain ⟨wx, _, hwx, hwk⟩ := in_kl (T := T) hw
    have count : ∀ (pre post : List Win), given = pre ++ post → (∀ u ∈ post, inCrowd (startW given.length given 1 1) given.length u = true) → inCrowd (startW given.length given 1 1) given.length w0 = true → post.length + 1 ≤ (V.filter (inCrowd (startW given.length given 1 1) given.length)).length := fun pre post e hp hw => by
      have h1 := (d.perm.filter (inCrowd (startW given.length given 1 1) given.length)).length_eq
      rw [← h1, List.filter_append, List.length_append]
      have h2 : post.length ≤ (given.filter (inCrowd (startW given.length given 1 1) given.length)).length := by
        rw [show given.filter (inCrowd (startW given.length given 1 1) given.length) = (pre.filter (inCrowd (startW given.length given 1 1) given.length)) ++ post.filter (inCrowd (startW given.length given 1 1) given.length) by rw [← List.filter_append, ← e]]
        rw [List.length_append, List.filter_eq_self.mpr hp]; omega
      rw [List.filter_cons, if_pos hw, List.length_cons]; omega
    rcases startW_spec given.length given 1 1 with ⟨h1, h2⟩ | ⟨pre, v, post, e, h1, h2, h3⟩
    · have := count [] given rfl (fun u hu => crowd_of (h2 u hu) (by rw [h1]; exact (ok.one u (d.mem.mpr (.inl hu))).2)) (crowd_of hw (by rw [h1]; exact (ok.one w0 hw0).2))
      rw [h1]; rw [h1] at this
      exact ⟨Int.le_refl _, by omega⟩
    · have hv := out_kl hg h1
      obtain ⟨g1, g2, g3⟩ := d.got pre v post e
      have op : ∀ u ∈ post ++ w0 :: wr, outW given.length u = false → startW given.length given 1 1 ≤ u.2.2.1 := fun u hu ho => by
        obtain ⟨x, _, hx, hk⟩ := in_kl (T := T) ho
        have := g3 u hu (.inl (by omega))
        rw [h3]; omega
      have := count (pre ++ [v]) post (by rw [e]; simp) (fun u hu => crowd_of (h2 u hu) (op u (List.mem_append_left _ hu) (h2 u hu))) (crowd_of hw (op w0 (by simp) hw))
      have hlen : given.length = pre.length + 1 + post.length := by rw [e, List.length_append, List.length_cons]; omega
      refine ⟨by rw [h3]; omega, ?_⟩
      rw [h3] at this ⊢
      omega
theorem Dealt.order {T : Int} {V wait given : List Win} (ok : OkVs T V) (d : Dealt T V wait given) : ∀ (pre post : List Win), given = pre ++ post → ∀ c : Int, (pre.filter fun v => decide (v.1 = c)).map (·.2.1) = (List.range (pre.filter fun v => decide (v.1 = c)).length).map fun i : Nat => (i : Int) + 1 := by
  have ndV : V.Nodup := List.Pairwise.of_map keyW (fun a b h e => h (by rw [e])) ok.nd
  have nd : (given ++ wait).Nodup := d.perm.nodup_iff.mpr ndV
  intro pre
  induction hn : pre.length generalizing pre with
  | zero => intro post e c; cases List.length_eq_zero_iff.mp hn; rfl
  | succ n ih =>
    intro post e c
    rcases List.eq_nil_or_concat pre with z | ⟨q, v, z⟩
    · subst z; cases hn
    · rw [List.concat_eq_append] at z
      subst z
      rw [List.length_append] at hn
      have hq := ih q (by simpa using hn) ([v] ++ post) (by rw [e]; simp) c
      rw [List.filter_append]
      by_cases hc : v.1 = c
      · have hf : [v].filter (fun v => decide (v.1 = c)) = [v] := by simp [hc]
        rw [hf, List.map_append, hq, List.length_append, List.length_singleton, List.range_succ, List.map_append]
        congr 1
        show [v.2.1] = [_]
        congr 1
        have e' : given = q ++ v :: post := by rw [e]; simp
        obtain ⟨g1, g2, g3⟩ := d.got q v post e'
        have hv : v ∈ V := d.mem.mpr (.inl (by rw [e']; simp))
        have mq : ∀ i : Int, 1 ≤ i → i < v.2.1 → i ∈ (q.filter fun v => decide (v.1 = c)).map (·.2.1) := fun i h1 h2 => by
          obtain ⟨u, hu, ku⟩ := ok.pre v hv i h1 h2
          have u1 : u.1 = v.1 := congrArg (fun p : Int × Int => p.1) ku
          have u2 : u.2.1 = i := congrArg (fun p : Int × Int => p.2) ku
          have om := ok.ord u hu v hv u1 (by omega)
          have hin : u ∈ q := by
            have : u ∈ given ∨ u ∈ wait := d.mem.mp hu
            rw [e'] at this
            simp only [List.mem_append, List.mem_cons] at this
            rcases this with (z | z | z) | z
            · exact z
            · rw [z] at u2; omega
            · have := g3 u (List.mem_append_left _ z) (by unfold less; omega); omega
            · have := g3 u (List.mem_append_right _ z) (by unfold less; omega); omega
          exact List.mem_map.mpr ⟨u, List.mem_filter.mpr ⟨hin, decide_eq_true (by omega)⟩, u2⟩
        have nq : v.2.1 ∉ (q.filter fun v => decide (v.1 = c)).map (·.2.1) := fun h => by
          obtain ⟨u, hu, ku⟩ := List.mem_map.mp h
          obtain ⟨hu, hc'⟩ := List.mem_filter.mp hu
          have hc' := of_decide_eq_true hc'
          have : u = v := key_inj ok.nd (d.mem.mpr (.inl (by rw [e']; simp [hu]))) hv (by unfold keyW; rw [hc', hc]; congr 1)
          subst this
          rw [e'] at nd
          have := (List.nodup_append.mp (List.nodup_append.mp nd).1).2.2 u hu u List.mem_cons_self
          exact this rfl
        rw [hq] at mq nq
        generalize (q.filter fun v => decide (v.1 = c)).length = m at mq nq ⊢
        show v.2.1 = (m : Int) + 1
        have h1 := (ok.one v hv).1
        by_cases z1 : v.2.1 < (m : Int) + 1
        · exact absurd (List.mem_map.mpr ⟨(v.2.1 - 1).toNat, List.mem_range.mpr (by omega), by omega⟩) nq
        · by_cases z2 : (m : Int) + 1 < v.2.1
          · obtain ⟨x, hx, ex⟩ := List.mem_map.mp (mq ((m : Int) + 1) (by omega) z2)
            have := List.mem_range.mp hx
            omega
          · omega
      · have hf : [v].filter (fun v => decide (v.1 = c)) = [] := by simp [hc]
        rw [hf, List.append_nil]
        exact hq
theorem cnt_map (l : List Win) (c : Int) : cnt (l.map (·.1)) c = ((l.filter fun v => decide (v.1 = c)).length : Int) := by
  unfold cnt
  rw [List.filter_map, List.length_map]; rfl
theorem Dealt.key {T : Int} {V wait given : List Win} (ok : OkVs T V) (d : Dealt T V wait given) {pre post : List Win} {v : Win} (e : given = pre ++ v :: post) : keyW v = keyR (given.map (·.1)) pre.length := by
  have h := d.order ok (pre ++ [v]) post (by rw [e]; simp) v.1
  have g1 : (given.map (·.1)).getD pre.length 0 = v.1 := by rw [e]; simp
  have g2 : (given.map (·.1)).take (pre.length + 1) = (pre ++ [v]).map (·.1) := by rw [e, List.map_append, List.map_cons, List.take_append, List.length_map, List.take_of_length_le (by rw [List.length_map]; omega)]; simp
  unfold keyR keyW
  rw [g1, g2, cnt_map]
  congr 1
  rw [List.filter_append, show [v].filter (fun w => decide (w.1 = v.1)) = [v] by simp] at h ⊢
  rw [List.map_append, List.length_append, List.length_singleton, List.range_succ, List.map_append] at h
  have := (List.append_inj' h rfl).2
  simp at this
  rw [List.length_append, List.length_singleton, this]; rfl
theorem Dealt.row {T : Int} {V wait given : List Win} (ok : OkVs T V) (d : Dealt T V wait given) (hg : (given.length : Int) = T) (hl : lateW wait given.length = false) : FitsR V (given.map (·.1)) := by
  have split : ∀ k, k < given.length → ∃ pre v post, given = pre ++ v :: post ∧ pre.length = k := fun k hk => ⟨given.take k, given[k], given.drop (k + 1), by rw [List.getElem_cons_drop, List.take_append_drop], by rw [List.length_take]; omega⟩
  constructor
  · intro k hk
    rw [List.length_map] at hk
    obtain ⟨pre, v, post, e, rfl⟩ := split k hk
    obtain ⟨g1, g2, g3⟩ := d.got pre v post e
    refine ⟨v, d.mem.mpr (.inl (by rw [e]; simp)), d.key ok e, g1, ?_⟩
    unfold kl at g2
    cases el : v.2.2.2 with
    | none => trivial
    | some x => rw [el] at g2; exact g2
  · intro v hv hne
    rcases d.mem.mp hv with z | z
    · obtain ⟨k, hk, ek⟩ := List.getElem_of_mem z
      obtain ⟨pre, u, post, e, hp⟩ := split k hk
      have : u = v := by rw [← ek]; subst hp; simp [e]
      subst this
      have := d.key ok e
      have h2 : u.2.1 = cnt ((given.map (·.1)).take (pre.length + 1)) ((given.map (·.1)).getD pre.length 0) := congrArg Prod.snd this
      have h1 : u.1 = (given.map (·.1)).getD pre.length 0 := congrArg Prod.fst this
      rw [← h1] at h2
      rw [h2]
      have := cnt_take (given.map (·.1)) (i := pre.length + 1) (j := (given.map (·.1)).length) (by rw [List.length_map, e, List.length_append, List.length_cons]; omega) u.1
      rwa [List.take_length] at this
    · have := late_kl (T := T) (by omega) hl d.srt v z
      cases el : v.2.2.2 with
      | none => exact absurd el hne
      | some x =>
        have h2 := ok.top v hv x el
        unfold kl at this
        rw [el] at this
        have : (given.length : Int) + 1 ≤ x := this
        omega

theorem hu65 {A : Around} {k : Nat} (hr : Room k A) : A.units + 65 < cLine := by have := hr.un; omega
theorem atI2 {α : Type} {x y z : α} {xs : List α} : atI (x :: y :: z :: xs) 2 = some z := atI_nat (j := 2) rfl
theorem atI3 {α : Type} {x y z w : α} {xs : List α} : atI (x :: y :: z :: w :: xs) 3 = some w := atI_nat (j := 3) rfl
noncomputable def keyD (T : Int) : D → K3
  | .tuple [.int c, .int j, _, .none] => (T + 1, c, j)
  | .tuple [.int c, .int j, _, .int l] => (l, c, j)
  | _ => (0, 0, 0)
theorem keyD_dW (T : Int) (v : Win) : keyD T (dW v) = (kl T v, v.1, v.2.1) := by
  obtain ⟨c, j, o, l⟩ := v
  cases l <;> rfl
theorem lex_less (T : Int) (u v : Win) : lex3 (keyD T (dW u)) (keyD T (dW v)) = true ↔ less T u v := by
  rw [keyD_dW, keyD_dW]
  unfold lex3 less
  rw [decide_eq_true_eq]
theorem perm_of_map {α β : Type} {f : α → β} {l l' : List β} (h : l.Perm l') : ∀ V : List α, l' = V.map f → ∃ V' : List α, V'.Perm V ∧ l = V'.map f := by
  induction h with
  | nil => intro V e; cases V with
    | nil => exact ⟨[], .nil, rfl⟩
    | cons _ _ => cases e
  | cons x _ ih =>
    intro V e
    cases V with
    | nil => cases e
    | cons v V =>
      rw [List.map_cons] at e
      obtain ⟨e1, e2⟩ := List.cons.inj e
      obtain ⟨V', p, e3⟩ := ih V e2
      exact ⟨v :: V', p.cons v, by rw [List.map_cons, e1, e3]⟩
  | swap x y l =>
    intro V e
    match V, e with
    | v :: u :: V, e =>
      rw [List.map_cons, List.map_cons] at e
      obtain ⟨e1, e2⟩ := List.cons.inj e
      obtain ⟨e2, e3⟩ := List.cons.inj e2
      exact ⟨u :: v :: V, .swap _ _ _, by rw [List.map_cons, List.map_cons, e1, e2, e3]⟩
  | trans _ _ ih1 ih2 =>
    intro V e
    obtain ⟨V1, p1, e1⟩ := ih2 V e
    obtain ⟨V2, p2, e2⟩ := ih1 V1 e1
    exact ⟨V2, p2.trans p1, e2⟩
theorem key_nd {T : Int} {V : List Win} (nd : (V.map keyW).Nodup) : ((V.map dW).map (keyD T)).Nodup := by
  rw [List.map_map, List.nodup_iff_pairwise_ne, List.pairwise_map]
  rw [List.nodup_iff_pairwise_ne, List.pairwise_map] at nd
  refine nd.imp fun {a b} h e => h ?_
  have e : keyD T (dW a) = keyD T (dW b) := e
  rw [keyD_dW, keyD_dW] at e
  have e2 := congrArg Prod.snd e
  exact e2
theorem erase_map {α β : Type} (f : α → β) : ∀ (l : List α) (i : Nat), (l.map f).eraseIdx i = (l.eraseIdx i).map f
  | [], _ => rfl
  | _ :: _, 0 => rfl
  | _ :: l, i + 1 => by rw [List.map_cons, List.eraseIdx_cons_succ, List.eraseIdx_cons_succ, List.map_cons, erase_map f l i]
theorem comp_keep {α : Type} {g : TG3} {tt : TT3} {te : TE3} {f : Bool} (enc out : α → D) (keep : α → Bool) (R : Env3 → Prop) : ∀ (xs : List α), (∀ x ∈ xs, ∀ ρ fa acc (K : Bool → List D → Env3 → Prop), R ρ → (∀ fa' ρ', R ρ' → K fa' (if keep x = true then acc ++ [out x] else acc) ρ') →
    g f (enc x) ρ fun ρ' => tt ρ' fun k => if k = true then te ρ' fun c => asS c fun fy y => K (fa && fy) (acc ++ [y]) ρ' else K fa acc ρ') → ∀ fa acc ρ (Q : Bool → List D → Prop), R ρ → (∀ fa', Q fa' (acc ++ (xs.filter keep).map out)) → compL g tt te f (xs.map enc) fa acc ρ Q
  | [], _, fa, acc, ρ, Q, _, q => by show Q fa acc; simpa using q fa
  | x :: xs, s, fa, acc, ρ, Q, hR, q => s x List.mem_cons_self ρ fa acc (fun fa acc ρ' => compL g tt te f (xs.map enc) fa acc ρ' Q) hR fun fa' ρ' hR' =>
      comp_keep enc out keep R xs (fun y hy => s y (List.mem_cons_of_mem _ hy)) fa' _ ρ' Q hR' fun fb => by
        have q := q fb
        rw [List.filter_cons] at q
        cases hk : keep x with
        | true => rw [hk] at q; simpa using q
        | false => rw [hk] at q; simpa using q
noncomputable def RowIs (T : Int) (V : List Win) (row : List Int) : Prop := ∃ wait given, Dealt T V wait given ∧ (given.length : Int) = T ∧ row = given.map (·.1)
theorem dealt_one {T : Int} {V w1 g1 w2 g2 : List Win} (nd : (V.map keyW).Nodup) (d1 : Dealt T V w1 g1) (d2 : Dealt T V w2 g2) : ∀ (pre p1 p2 : List Win), g1 = pre ++ p1 → g2 = pre ++ p2 → p1.length = p2.length → p1 = p2
  | _, [], [], _, _, _ => rfl
  | _, [], _ :: _, _, _, h => by cases h
  | _, _ :: _, [], _, _, h => by cases h
  | pre, v :: p1, u :: p2, e1, e2, h => by
    have nV : V.Nodup := (List.nodup_iff_pairwise_ne.mpr (((List.pairwise_map.mp (List.nodup_iff_pairwise_ne.mp nd))).imp fun {a b} h e => h (by rw [e])))
    have n1 : (pre ++ v :: p1 ++ w1).Nodup := by rw [← e1]; exact d1.perm.nodup_iff.mpr nV
    have n2 : (pre ++ u :: p2 ++ w2).Nodup := by rw [← e2]; exact d2.perm.nodup_iff.mpr nV
    have hv : v ∈ V := d1.perm.mem_iff.mp (by rw [e1]; simp)
    have hu : u ∈ V := d2.perm.mem_iff.mp (by rw [e2]; simp)
    have m1 : u ∈ pre ++ v :: p1 ++ w1 := by rw [← e1]; exact d1.perm.mem_iff.mpr hu
    have m2 : v ∈ pre ++ u :: p2 ++ w2 := by rw [← e2]; exact d2.perm.mem_iff.mpr hv
    have x1 : v ∉ pre := fun z => by
      rw [List.append_assoc, List.nodup_append] at n1
      exact n1.2.2 v z v (by simp) rfl
    have x2 : u ∉ pre := fun z => by
      rw [List.append_assoc, List.nodup_append] at n2
      exact n2.2.2 u z u (by simp) rfl
    obtain ⟨a1, _, a3⟩ := d1.got pre v p1 e1
    obtain ⟨b1, _, b3⟩ := d2.got pre u p2 e2
    have huv : v = u := by
      have c1 : u = v ∨ u ∈ p1 ++ w1 := by
        simp only [List.mem_append, List.mem_cons] at m1 ⊢
        rcases m1 with (z | z | z) | z
        · exact absurd z x2
        · exact .inl z
        · exact .inr (.inl z)
        · exact .inr (.inr z)
      have c2 : v = u ∨ v ∈ p2 ++ w2 := by
        simp only [List.mem_append, List.mem_cons] at m2 ⊢
        rcases m2 with (z | z | z) | z
        · exact absurd z x1
        · exact .inl z
        · exact .inr (.inl z)
        · exact .inr (.inr z)
      rcases c1 with z | z
      · exact z.symm
      rcases c2 with y | y
      · exact y
      have l1 : ¬ less T u v := fun l => by have := a3 u z l; omega
      have l2 : ¬ less T v u := fun l => by have := b3 v y l; omega
      refine key_inj nd hv hu ?_
      unfold less at l1 l2
      unfold keyW
      rw [show v.1 = u.1 by omega, show v.2.1 = u.2.1 by omega]
    subst huv
    rw [dealt_one nd d1 d2 (pre ++ [v]) p1 p2 (by simpa using e1) (by simpa using e2) (by simpa using h)]
theorem RowIs.one {T : Int} {V : List Win} {r s : List Int} (nd : (V.map keyW).Nodup) (h : RowIs T V r) (h' : RowIs T V s) : r = s := by
  obtain ⟨w1, g1, d1, l1, rfl⟩ := h
  obtain ⟨w2, g2, d2, l2, rfl⟩ := h'
  rw [dealt_one nd d1 d2 [] g1 g2 rfl rfl (by omega)]
theorem plain_row : Plain 0 (.str "row") := ⟨by unfold PyData.canLay0; decide +kernel, by simp [PyData.depth]⟩
theorem plain_ints (ns : List Int) : Plain 1 (.list (ns.map .int)) := Plain.list fun d hd => by
  obtain ⟨x, _, rfl⟩ := List.mem_map.mp hd
  exact Plain.int x
theorem plain_told (ns : List Int) : Plain 2 (.tuple [.str "row", .list (ns.map .int)]) := Plain.tuple fun d hd => by
  simp only [List.mem_cons, List.not_mem_nil, or_false] at hd
  rcases hd with rfl | rfl
  · exact plain_row.mono (by decide)
  · exact plain_ints ns
theorem callY_step {i : Nat} {sp : Sp3} {t : TA3} {u : TS3} {A : Ends3} {ρ : Env3} (h : ∀ N : Bool → D → Prop, (∀ f d, u { nx := fun _ => False, rt := A.rt } ((weakE ρ).set i (some (.sh f d))) → N f d) → t ρ fun cs => optP (shs cs) fun p => sp p.2 N fun _ => False) : callY3 i sp t u A ρ := h _ fun _ _ z => z
theorem ifX_step {sp : Sp3} {t : TA3} {te : TT3} {u r : TS3} {A : Ends3} {ρ : Env3} (h : ∀ N : Bool → D → Prop, (∀ f, te (weakE ρ) (fun k2 => if k2 = true then u { nx := fun _ => False, rt := A.rt } (weakE ρ) else r { nx := fun _ => False, rt := A.rt } (weakE ρ)) → N f (.bool true)) → t ρ fun cs => optP (shs cs) fun p => sp p.2 N fun _ => False) : ifX3 sp t te u r A ρ := h _ fun _ z => z
theorem seqX_mid {t u : TS3} {A : Ends3} {ρ : Env3} (M : Env3 → Prop) (h1 : ∀ N : Env3 → Prop, (∀ ρ', M ρ' → N ρ') → t { nx := N, rt := fun _ _ => False } ρ) (h2 : ∀ ρ', M ρ' → u A ρ') : seqX t u A ρ := h1 (u A) h2
noncomputable def lackP (T : Int) (V : List Win) (d : D) : Prop := ∃ t : Nat, 1 ≤ t ∧ (t : Int) ≤ T ∧ (V.filter fun v => decide (v.2.2.1 ≤ (t : Int))).length < t ∧ d = .tuple [.str "lack", .int t]
noncomputable def crowdP (V : List Win) (d : D) : Prop := ∃ a b : Int, 1 ≤ a ∧ 0 ≤ b ∧ max 0 (b - a + 1) < ((V.filter (inCrowd a b)).length : Int) ∧ d = .tuple [.str "crowd", .int a, .int b]
noncomputable def rowP (T : Int) (V : List Win) (d : D) : Prop := ∃ row : List Int, (row.length : Int) = T ∧ FitsR V row ∧ RowIs T V row ∧ d = .tuple [.str "row", dI row]
theorem placeW_at {t : Int} : ∀ {w : List Win} {k : Nat} (hk : k < w.length), (∀ i (hi : i < w.length), i < k → t < w[i].2.2.1) → w[k].2.2.1 ≤ t → placeW t w = some k
  | [], k, hk, _, _ => by simp at hk
  | v :: r, 0, _, _, h => by
    have h : v.2.2.1 ≤ t := h
    unfold placeW; rw [if_pos h]
  | v :: r, k + 1, hk, hb, h => by
    have h0 := hb 0 (by simp) (by omega)
    have h0 : t < v.2.2.1 := h0
    unfold placeW
    rw [if_neg (by omega), placeW_at (k := k) (by simpa using hk) (fun i hi hik => by have := hb (i + 1) (by simpa using hi) (by omega); simpa using this) (by simpa using h)]
    rfl
theorem placeW_end {t : Int} : ∀ {w : List Win}, (∀ i (hi : i < w.length), t < w[i].2.2.1) → placeW t w = none
  | [], _ => rfl
  | v :: r, hb => by
    have h0 := hb 0 (by simp)
    have h0 : t < v.2.2.1 := h0
    unfold placeW
    rw [if_neg (by omega), placeW_end (fun i hi => by have := hb (i + 1) (by simpa using hi); simpa using this)]
    rfl
theorem OkVs.nil (T : Int) : OkVs T [] := ⟨List.nodup_nil, fun v h => (by cases h), fun v h => (by cases h), fun v h => (by cases h), fun v h => (by cases h)⟩
theorem OkVs.snoc {T : Int} {V : List Win} (ok : OkVs T V) {v : Win} (h1 : 1 ≤ v.2.1) (h2 : 1 ≤ v.2.2.1) (hp : ∀ i, 1 ≤ i → i < v.2.1 → ∃ u ∈ V, keyW u = (v.1, i)) (ho : ∀ u ∈ V, u.1 = v.1 → u.2.1 < v.2.1 ∧ u.2.2.1 ≤ v.2.2.1 ∧ kl T u ≤ kl T v) (ht : ∀ x, v.2.2.2 = some x → x ≤ T) : OkVs T (V ++ [v]) where
  nd := by
    rw [List.map_append, List.nodup_append]
    refine ⟨ok.nd, by simp, fun a ha b hb e => ?_⟩
    obtain ⟨u, hu, rfl⟩ := List.mem_map.mp ha
    have hb : b = keyW v := by simpa using hb
    subst hb
    have e1 : u.1 = v.1 := congrArg (fun p : Int × Int => p.1) e
    have e2 : u.2.1 = v.2.1 := congrArg (fun p : Int × Int => p.2) e
    have := (ho u hu e1).1
    omega
  one := fun u hu => by
    rcases List.mem_append.mp hu with z | z
    · exact ok.one u z
    · rw [List.mem_singleton.mp z]; exact ⟨h1, h2⟩
  pre := fun u hu i hi hlt => by
    rcases List.mem_append.mp hu with z | z
    · obtain ⟨w, hw, e⟩ := ok.pre u z i hi hlt
      exact ⟨w, List.mem_append_left _ hw, e⟩
    · rw [List.mem_singleton.mp z] at hlt ⊢
      obtain ⟨w, hw, e⟩ := hp i hi hlt
      exact ⟨w, List.mem_append_left _ hw, e⟩
  ord := fun u hu w hw e hlt => by
    rcases List.mem_append.mp hu with z | z
    · rcases List.mem_append.mp hw with y | y
      · exact ok.ord u z w y e hlt
      · rw [List.mem_singleton.mp y] at e ⊢; exact (ho u z e).2
    · rcases List.mem_append.mp hw with y | y
      · rw [List.mem_singleton.mp z] at e hlt
        have := (ho w y e.symm).1
        omega
      · rw [List.mem_singleton.mp z, List.mem_singleton.mp y] at hlt; omega
  top := fun u hu x hx => by
    rcases List.mem_append.mp hu with z | z
    · exact ok.top u z x hx
    · rw [List.mem_singleton.mp z] at hx; exact ht x hx
theorem kl_top {T : Int} {V : List Win} (ok : OkVs T V) {v : Win} (hv : v ∈ V) : kl T v ≤ T + 1 := by
  unfold kl
  cases e : v.2.2.2 with
  | none => exact Int.le_refl _
  | some x => have := ok.top v hv x e; show x ≤ T + 1; omega

theorem OkVs.app {T c : Int} {A B : List Win} (a : OkVs T A) (b : OkVs T B) (ha : ∀ v ∈ A, v.1 < c) (hb : ∀ v ∈ B, v.1 = c) : OkVs T (A ++ B) where
  nd := by
    rw [List.map_append, List.nodup_append]
    refine ⟨a.nd, b.nd, fun x hx y hy e => ?_⟩
    obtain ⟨u, hu, rfl⟩ := List.mem_map.mp hx
    obtain ⟨v, hv, rfl⟩ := List.mem_map.mp hy
    have e1 : u.1 = v.1 := congrArg (fun p : Int × Int => p.1) e
    have := ha u hu
    have := hb v hv
    omega
  one := fun v hv => (List.mem_append.mp hv).elim (a.one v) (b.one v)
  pre := fun v hv i h1 h2 => by
    rcases List.mem_append.mp hv with z | z
    · obtain ⟨u, hu, e⟩ := a.pre v z i h1 h2
      exact ⟨u, List.mem_append_left _ hu, e⟩
    · obtain ⟨u, hu, e⟩ := b.pre v z i h1 h2
      exact ⟨u, List.mem_append_right _ hu, e⟩
  ord := fun u hu v hv e h => by
    rcases List.mem_append.mp hu with z | z <;> rcases List.mem_append.mp hv with y | y
    · exact a.ord u z v y e h
    · have := ha u z; have := hb v y; omega
    · have := hb u z; have := ha v y; omega
    · exact b.ord u z v y e h
  top := fun v hv => (List.mem_append.mp hv).elim (a.top v) (b.top v)
noncomputable def k99 (v : Win) : K3 := (v.2.2.2.getD 100, v.1, v.2.1)
noncomputable def BestP (t : Int) (w : List Win) : Option Win → Prop
  | none => ∀ v ∈ w, t < v.2.2.1
  | some v => v ∈ w ∧ v.2.2.1 ≤ t ∧ ∀ u ∈ w, u.2.2.1 ≤ t → lex3 (k99 u) (k99 v) = false
noncomputable def encB : Option Win → D
  | none => .none
  | some v => .tuple [kd3 (k99 v), dW v]
theorem lex3_irr (k : K3) : lex3 k k = false := by
  unfold lex3
  exact decide_eq_false (by omega)
theorem lex3_tr {a b c : K3} (h : lex3 a b = true) (h' : lex3 b c = true) : lex3 a c = true := by
  unfold lex3 at *
  rw [decide_eq_true_eq] at *
  omega
theorem best_skip {t : Int} {w : List Win} {v : Win} {b : Option Win} (h : BestP t w b) (hv : ¬ v.2.2.1 ≤ t) : BestP t (w ++ [v]) b := by
  cases b with
  | none =>
    intro u hu
    rcases List.mem_append.mp hu with z | z
    · exact h u z
    · rw [List.mem_singleton.mp z]; omega
  | some x =>
    refine ⟨List.mem_append_left _ h.1, h.2.1, fun u hu ho => ?_⟩
    rcases List.mem_append.mp hu with z | z
    · exact h.2.2 u z ho
    · rw [List.mem_singleton.mp z] at ho; exact absurd ho hv
theorem best_first {t : Int} {w : List Win} {v : Win} (h : BestP t w none) (hv : v.2.2.1 ≤ t) : BestP t (w ++ [v]) (some v) := by
  refine ⟨by simp, hv, fun u hu ho => ?_⟩
  rcases List.mem_append.mp hu with z | z
  · have := h u z; omega
  · rw [List.mem_singleton.mp z]; exact lex3_irr _
theorem best_new {t : Int} {w : List Win} {v x : Win} (h : BestP t w (some x)) (hv : v.2.2.1 ≤ t) (hl : lex3 (k99 v) (k99 x) = true) : BestP t (w ++ [v]) (some v) := by
  refine ⟨by simp, hv, fun u hu ho => ?_⟩
  rcases List.mem_append.mp hu with z | z
  · cases e : lex3 (k99 u) (k99 v) with
    | false => rfl
    | true =>
      have := lex3_tr e hl
      rw [h.2.2 u z ho] at this; cases this
  · rw [List.mem_singleton.mp z]; exact lex3_irr _
theorem best_old {t : Int} {w : List Win} {v x : Win} (h : BestP t w (some x)) (hl : lex3 (k99 v) (k99 x) = false) : BestP t (w ++ [v]) (some x) := by
  refine ⟨List.mem_append_left _ h.1, h.2.1, fun u hu ho => ?_⟩
  rcases List.mem_append.mp hu with z | z
  · exact h.2.2 u z ho
  · rw [List.mem_singleton.mp z]; exact hl
theorem lex_T {T : Int} {u v : Win} (hT : T ≤ 98) (hu : ∀ x, u.2.2.2 = some x → x ≤ T) (hv : ∀ x, v.2.2.2 = some x → x ≤ T) (h : less T u v) : lex3 (k99 u) (k99 v) = true := by
  unfold less kl at h
  unfold lex3 k99
  rw [decide_eq_true_eq]
  cases e1 : u.2.2.2 with
  | none =>
    cases e2 : v.2.2.2 with
    | none => rw [e1, e2] at h; simp only [Option.getD_none, true_and] at h ⊢; omega
    | some y => have := hv y e2; rw [e1, e2] at h; simp only [Option.getD_none, Option.getD_some] at h ⊢; omega
  | some x =>
    have := hu x e1
    cases e2 : v.2.2.2 with
    | none => rw [e1, e2] at h; simp only [Option.getD_none, Option.getD_some] at h ⊢; omega
    | some y => rw [e1, e2] at h; simp only [Option.getD_some] at h ⊢; omega
theorem perm_at {α : Type} {l : List α} {i : Nat} {v : α} (h : l[i]? = some v) : l.Perm (v :: l.eraseIdx i) := by
  have hi : i < l.length := (List.getElem?_eq_some_iff.mp h).1
  have e : l = l.take i ++ v :: l.drop (i + 1) := by
    have : l[i] = v := (List.getElem?_eq_some_iff.mp h).2
    rw [← this, List.getElem_cons_drop, List.take_append_drop]
  have e2 : l.eraseIdx i = l.take i ++ l.drop (i + 1) := List.eraseIdx_eq_take_drop_succ l i
  rw [e2]
  exact (List.Perm.of_eq e).trans List.perm_middle
theorem best_place {T : Int} {V wait given w : List Win} (ok : OkVs T V) (hT : T ≤ 98) (d : Dealt T V wait given) (hp : w.Perm wait) {t : Int} {v : Win} (hb : BestP t w (some v)) : ∃ p, placeW t wait = some p ∧ wait[p]? = some v := by
  have top : ∀ u ∈ wait, ∀ x, u.2.2.2 = some x → x ≤ T := fun u hu => ok.top u (d.mem.mpr (.inr hu))
  have hv : v ∈ wait := hp.mem_iff.mp hb.1
  cases e : placeW t wait with
  | none => have := placeW_none e v hv; have := hb.2.1; omega
  | some p =>
    obtain ⟨pre, x, post, ew, hl, ho, hu⟩ := placeW_some e
    refine ⟨p, rfl, ?_⟩
    have hx : wait[p]? = some x := by rw [ew, ← hl]; simp
    rw [hx]
    congr 1
    rw [ew] at hv
    rcases List.mem_append.mp hv with z | z
    · have := hu v z; have := hb.2.1; omega
    · rcases List.mem_cons.mp z with z | z
      · exact z.symm
      · have s := d.srt
        rw [ew] at s
        have hl := (List.pairwise_cons.mp (List.pairwise_append.mp s).2.1).1 v z
        have hx' : x ∈ wait := by rw [ew]; simp
        have := lex_T hT (top x hx') (top v (by rw [ew]; simp [z])) hl
        rw [hb.2.2 x (hp.mem_iff.mpr hx') ho] at this
        cases this
theorem less_tr {T : Int} {u v w : Win} (h : less T u v) (h' : less T v w) : less T u w := by
  unfold less at *; omega
theorem srt_ins {T : Int} (v : Win) : ∀ {w : List Win}, w.Pairwise (less T) → (∀ u ∈ w, keyW u ≠ keyW v) → ∃ w' : List Win, w'.Perm (v :: w) ∧ w'.Pairwise (less T)
  | [], _, _ => ⟨[v], List.Perm.refl _, by simp⟩
  | u :: r, hs, hk => by
    obtain ⟨h1, h2⟩ := List.pairwise_cons.mp hs
    by_cases hl : less T v u
    · refine ⟨v :: u :: r, List.Perm.refl _, List.pairwise_cons.mpr ⟨fun x hx => ?_, hs⟩⟩
      rcases List.mem_cons.mp hx with z | z
      · rw [z]; exact hl
      · exact less_tr hl (h1 x z)
    · have huv : less T u v := by
        have hne := hk u List.mem_cons_self
        have hne' : ¬ (u.1 = v.1 ∧ u.2.1 = v.2.1) := fun z => hne (by unfold keyW; rw [z.1, z.2])
        unfold less at hl ⊢
        omega
      obtain ⟨w', p, s⟩ := srt_ins v h2 fun x hx => hk x (List.mem_cons_of_mem _ hx)
      refine ⟨u :: w', (p.cons u).trans (.swap _ _ _), List.pairwise_cons.mpr ⟨fun x hx => ?_, s⟩⟩
      rcases List.mem_cons.mp (p.mem_iff.mp hx) with z | z
      · rw [z]; exact huv
      · exact h1 x z
theorem srt_ex {T : Int} : ∀ {V : List Win}, (V.map keyW).Nodup → ∃ w : List Win, w.Perm V ∧ w.Pairwise (less T)
  | [], _ => ⟨[], List.Perm.refl _, List.Pairwise.nil⟩
  | v :: r, nd => by
    rw [List.map_cons, List.nodup_cons] at nd
    obtain ⟨w, p, s⟩ := srt_ex (T := T) nd.2
    obtain ⟨w', p', s'⟩ := srt_ins v s fun u hu e => nd.1 (List.mem_map.mpr ⟨u, p.mem_iff.mp hu, e⟩)
    exact ⟨w', p'.trans (p.cons v), s'⟩
theorem first_at {α : Type} [DecidableEq α] {v : α} : ∀ {w : List α}, v ∈ w → ∃ j, w[j]? = some v ∧ ∀ (k : Nat) (u : α), k < j → w[k]? = some u → u ≠ v
  | [], h => by cases h
  | a :: r, h => by
    by_cases e : a = v
    · exact ⟨0, by rw [e]; rfl, fun k u hk => absurd hk (by omega)⟩
    · obtain ⟨j, h1, h2⟩ := first_at (w := r) ((List.mem_cons.mp h).resolve_left fun z => e z.symm)
      refine ⟨j + 1, by simpa using h1, fun k u hk hu => ?_⟩
      cases k with
      | zero =>
        have : a = u := by simpa using hu
        rw [← this]; exact e
      | succ k => exact h2 k u (by omega) (by simpa using hu)
theorem flat_encB (v : Win) : flat2 (encB (some v)) = true := by
  obtain ⟨a, b, c, l⟩ := v
  cases l <;> rfl
noncomputable def lateV (t : Int) (v : Win) : Bool := match v.2.2.2 with
  | none => false
  | some x => decide (x ≤ t)
theorem late_some {T t : Int} (ht : t ≤ T) {V wait given w : List Win} (d : Dealt T V wait given) (hp : w.Perm wait) (h : 0 < (w.filter (lateV t)).length) : lateW wait t = true := by
  obtain ⟨v, hv⟩ := List.exists_mem_of_length_pos h
  obtain ⟨hv, hl⟩ := List.mem_filter.mp hv
  cases e : lateW wait t with
  | true => rfl
  | false =>
    have := late_kl ht e d.srt v (hp.mem_iff.mp hv)
    unfold lateV at hl
    unfold kl at this
    cases e2 : v.2.2.2 with
    | none => rw [e2] at hl; cases hl
    | some x =>
      rw [e2] at hl this
      have hl : x ≤ t := of_decide_eq_true hl
      have this : t + 1 ≤ x := this
      omega
theorem late_none {t : Int} {wait w : List Win} (hp : w.Perm wait) (h : ¬ 0 < (w.filter (lateV t)).length) : lateW wait t = false := by
  cases wait with
  | nil => rfl
  | cons v r =>
    have hv : v ∈ w := hp.mem_iff.mpr List.mem_cons_self
    cases e : lateW (v :: r) t with
    | false => rfl
    | true => exact absurd (List.length_pos_of_mem (List.mem_filter.mpr ⟨hv, e⟩)) h
theorem list4 {i : Int} (h0 : 0 ≤ i) (h1 : i < 4) : ∃ s : Int, atI [PyData.int 2, PyData.int 3, PyData.int 5, PyData.int 9] i = some (.int s) ∧ 1 ≤ s ∧ s ≤ 9 := by
  have : i = 0 ∨ i = 1 ∨ i = 2 ∨ i = 3 := by omega
  rcases this with rfl | rfl | rfl | rfl
  · exact ⟨2, rfl, by decide, by decide⟩
  · exact ⟨3, rfl, by decide, by decide⟩
  · exact ⟨5, rfl, by decide, by decide⟩
  · exact ⟨9, rfl, by decide, by decide⟩
theorem dW_eqv (u v : Win) : PyData.eqv (dW u) (dW v) = decide (u = v) := by
  obtain ⟨a, b, c, l⟩ := u
  obtain ⟨a', b', c', l'⟩ := v
  rw [Bool.eq_iff_iff, decide_eq_true_eq]
  cases l <;> cases l' <;> simp [dW, dO, PyData.eqv, PyData.eqvAll]
theorem plain_dW (v : Win) : Plain 1 (dW v) := by
  unfold dW
  refine Plain.tuple fun d hd => ?_
  simp only [List.mem_cons, List.not_mem_nil, or_false] at hd
  rcases hd with rfl | rfl | rfl | rfl
  · exact Plain.int _
  · exact Plain.int _
  · exact Plain.int _
  · cases v.2.2.2 with
    | none => exact Plain.none
    | some x => exact Plain.int x
theorem plain_dWs (w : List Win) : Plain 2 (.list (w.map dW)) := Plain.list fun d hd => by
  obtain ⟨v, _, rfl⟩ := List.mem_map.mp hd
  exact plain_dW v

section
variable {P : Program} {w : World} {c : Law.Cl} {K : PySem.W.Frag} {mg : Str → Option Value} {base : Heap}
noncomputable def sp_law_cell_at : Sp3 := fun ds Q E => ∃ ns k, ds = [dI ns, .int k] ∧ 0 ≤ k ∧ ∀ v : Int, Q true (.int v)
noncomputable def sp_law_of_clan : Sp3 := fun ds Q E => ∃ x c T : Int, ds = [.int x, .int c, .int T] ∧ 0 ≤ x ∧ 1 ≤ T ∧ T ≤ 60 ∧ ∀ V : List Win, OkVs T V → V.length ≤ 77 → (∀ v ∈ V, v.1 = c) → Q true (.list (V.map dW))
noncomputable def sp_law_drawn_at : Sp3 := fun ds Q E => ∃ ns k, ds = [dI ns, .int k] ∧ 0 ≤ k ∧ k ≤ 64 ∧ ∀ v : Int, 0 ≤ v → Q true (.int v)
noncomputable def sp_law_visits : Sp3 := fun ds Q E => ∃ (ns : List Int) (T : Int), ds = [dI ns, .int T] ∧ 1 ≤ T ∧ T ≤ 60 ∧ ∀ V : List Win, OkVs T V → V.length ≤ 616 → Q true (.list (V.map dW))
noncomputable def sp_law_first : Sp3 := fun ds Q E => ∃ (w : List Win) (t : Int), ds = [.list (w.map dW), .int t] ∧ ∀ b, BestP t w b → Q b.isNone (encB b)
noncomputable def sp_law_dealt : Sp3 := fun ds Q E => ∃ (T : Int) (V : List Win), ds = [.int T, .list (V.map dW)] ∧ 0 ≤ T ∧ T ≤ 60 ∧ V.length < 1000 ∧ OkVs T V ∧ (∀ d, (lackP T V d ∨ crowdP V d) → Q true .none) ∧ ∀ row : List Int, (row.length : Int) = T → FitsR V row → RowIs T V row → Q true (dI row)
noncomputable def sp_is_late : Sp3 := fun ds Q E => ∃ (w : List Win) (g : Int), ds = [.list (w.map dW), .int g] ∧ Q true (.bool (lateW w g))
noncomputable def sp_place_of_opened : Sp3 := fun ds Q E => ∃ (w : List Win) (t : Int), ds = [.list (w.map dW), .int t] ∧ Q true (match placeW t w with | none => .none | some p => .int (p : Nat))
noncomputable def sp_start_of_crowd : Sp3 := fun ds Q E => ∃ (g : List Win), ds = [.list (g.map dW)] ∧ Q true (.int (startW g.length g 1 1))
noncomputable def sp_pressing : Sp3 := fun ds Q E => ∃ (v : Win) (T : Int), ds = [dW v, .int T] ∧ Q true (kd3 (kl T v, v.1, v.2.1))
noncomputable def sp_deal : Sp3 := fun ds Q E => ∃ (T : Int) (V : List Win), ds = [.int T, .list (V.map dW)] ∧ 0 ≤ T ∧ T ≤ 100 ∧ V.length < 1000 ∧ OkVs T V ∧ ∀ d, (lackP T V d ∨ crowdP V d ∨ rowP T V d) → Q true d
noncomputable def sp_law_whole : Sp3 := fun ds Q E => ∃ a, ds = [.int a] ∧ Q true (.bool true)
noncomputable def sp_law_told : Sp3 := fun ds Q E => ∃ (T : Int) (V : List Win) (due : D), ds = [.int T, .list (V.map dW), due] ∧ 0 ≤ T ∧ T ≤ 60 ∧ V.length < 1000 ∧ OkVs T V ∧ (due = .none ∧ (∃ d, lackP T V d ∨ crowdP V d) ∨ ∃ row : List Int, due = dI row ∧ (row.length : Int) = T ∧ FitsR V row ∧ RowIs T V row) ∧ Q true (.bool true)
noncomputable def sp_law : Sp3 := fun ds Q E => ∃ ns, ds = [dI ns] ∧ ns.length ≤ 63 ∧ Q true (.bool true)
local macro_rules | `(tactic| walk_at "rd") => do
    let ls ← ("seq3,next3,set3,own3,ret3,ifS3,tt3,o3,v3,atV,asS,asB,asD,optP,asT,asLd,asL,atO,consP,nilP,asId,asI,k3,nw3,add3,int3,int0,eq3,ne3,eqOk,eqv3,isN3,notN3,isNone,ix3,ixD,cons3,nil3,call3,cb3,len3,lenD,min23,all3,if3,and3,or3,not3,andV3,notV3,tup3,lst3,listN,catN,isi3',L2.isD,gn3,gtup3,gcons3,gnil3,app3,frzS,frz,frz1,for3,itL,rg1,rg2,comp3,true3,cst3,start3,shs,Cl.d,Cl.dat,Cl.f,scal3,Option.map_some,Option.map_none,Option.isSome_some,Option.isSome_none,Option.join_some,Option.join_none,List.all_cons,List.all_nil,Bool.and_true,Bool.true_and,Bool.and_self,Bool.or_false,Bool.false_or,Bool.or_true,Bool.true_or,List.map_cons,List.map_nil,List.length_cons,List.length_nil,Nat.reduceAdd,Nat.reduceSub,Nat.sub_self,List.replicate,List.cons_append,List.nil_append,List.append_nil,List.getElem?_cons_zero,List.getElem?_cons_succ,List.set_cons_zero,List.set_cons_succ,Option.some.injEq,Cl.sh.injEq,Cl.ow.injEq,PyData.int.injEq,PyData.bool.injEq,PyData.str.injEq,PyData.list.injEq,PyData.tuple.injEq,List.cons.injEq,reduceCtorEq,and_assoc,and_true,true_and,and_self,exists_eq_left,exists_eq_left',exists_eq',exists_eq_right,exists_eq_right',exists_and_left,exists_const,exists_false,false_and,and_false,or_false,false_or,or_true,true_or,decide_true,decide_false,decide_eq_true_eq,Bool.not_true,Bool.not_false,Bool.false_eq_true,Bool.true_eq_false,if_true,if_false,ite_true,ite_false,Bool.not_eq_true',decide_eq_false_iff_not,eq_self_iff_true,not_true_eq_false,not_false_eq_true,sz0,sz2,sz3,sz4,appPop3,thawT,itE,sort3,seqX,itE1,rmv3,ltT3,as3,thawL,callS3,callY3,yend3,ifX3,weakE,weak1,sp_law_cell_at,sp_law_of_clan,sp_law_drawn_at,sp_law_visits,sp_law_first,sp_law_dealt,sp_is_late,sp_place_of_opened,sp_start_of_crowd,sp_pressing,sp_deal,sp_law_whole,sp_law_told,sp_law,dI,atI0,atI1,atI2,atI3".splitOn ",").toArray.mapM fun s => `(Lean.Parser.Tactic.simpLemma| $(Lean.mkIdent s.toName):term)
    `(tactic| try simp (config := { maxSteps := 2000000 }) only [$ls:simpLemma,*])
theorem sc_law_cell_at : FnScope ["_law_script", "_law_k"] ["_law_script", "_law_k"] (defScope s_law_cell_at) := ⟨rfl, rfl, rfl, by decide +kernel, rfl, by decide +kernel, by decide +kernel⟩
set_option maxHeartbeats 4000000 in
theorem fn_law_cell_at (T : Txt c K mg)  {f : Addr} {fd : FuncData} (F : Fun K "_law_cell_at" "_law_cell_at" s_law_cell_at f fd) : FnOk P w K mg base (CXR P w) 1 f fd ["_law_script", "_law_k"] (spL K sp_law_cell_at) := by
  have S := sc_law_cell_at
  refine fn3 F S (fun ds Q E h => ?_) (fun cdv A outer s H E E3 hE hr => ?_)
  · obtain ⟨_, _, rfl, _⟩ := h; rfl
  refine ⟨_, (ss_cons (s_if (tcmp3 lt_ok (n3 1) (callB3 len_ok rfl T.n_len bo_len (a_cons (n3 0) a_nil)) (nomark _)) (ss_one (s_ret (at3 (n3 0) (n3 1) (fun _ _ => rfl)))) ss_nil)
    (ss_one (s_ret i3))), fun ds Q h => ?_⟩
  obtain ⟨ns, k, rfl, hk, q⟩ := h
  walk_at "rd"
  rw [List.length_map]
  by_cases h : k < ns.length
  · rw [if_pos h]
    obtain ⟨x, h1, _⟩ := atI_lt (xs := ns) hk h
    exact ⟨.int x, by rw [atI_map, h1]; rfl, q _⟩
  · rw [if_neg h]
    exact q _
theorem ok_law_cell_at (T : Txt c K mg)  : Df3 P w K mg base 1 "_law_cell_at" ["_law_script", "_law_k"] sp_law_cell_at := by
  obtain ⟨f, fd, F, hm⟩ := T.d_law_cell_at
  have hb := F.binds (ps := ["_law_script", "_law_k"]) fun _ _ _ _ _ _ us hl => by obtain ⟨_, _, rfl⟩ := arity2 hl; rfl
  refine ⟨fun ds Q Q' E E' hQ hE h => ?_, ⟨f, fd, fn_law_cell_at T  F, hb, F.kp, hm⟩⟩
  obtain ⟨a, b, e, z, h⟩ := h; exact ⟨a, b, e, z, fun v => hQ _ _ (h v)⟩
theorem sc_law_of_clan : FnScope ["_law_cell", "_law_clan", "_law_turns", "_law_step", "_law_late", "_law_due", "_law_extra", "_law_rest", "_law_opens", "_law_last", "_law_made", "_law_j", "_law_here"] ["_law_cell", "_law_clan", "_law_turns"] (defScope s_law_of_clan) := ⟨rfl, rfl, rfl, by decide +kernel, rfl, by decide +kernel, by decide +kernel⟩
set_option maxHeartbeats 4000000 in
theorem fn_law_of_clan (T : Txt c K mg)  {f : Addr} {fd : FuncData} (F : Fun K "_law_of_clan" "_law_of_clan" s_law_of_clan f fd) : FnOk P w K mg base (CXR P w) 1 f fd ["_law_cell", "_law_clan", "_law_turns"] (spL K sp_law_of_clan) := by
  have S := sc_law_of_clan
  refine fn3 F S (fun ds Q E h => ?_) (fun cdv A outer s H E E3 hE hr => ?_)
  · obtain ⟨_, _, _, rfl, _⟩ := h; rfl
  refine ⟨_, (ss_cons (s_set (i := 3) S.nd rfl (by first | exact Or.inl rfl | exact Or.inr rfl) (at3 (new3 (lst3_ok (a_cons i3 (a_cons i3 (a_cons i3 (a_cons i3 a_nil)))))) (op3 mod_ok (n3 0) i3) (fun _ _ => rfl)))
    (ss_cons (s_set (i := 4) S.nd rfl (by first | exact Or.inl rfl | exact Or.inr rfl) (at3 (new3 (lst3_ok (a_cons i3 (a_cons i3 (a_cons i3 (a_cons i3 a_nil)))))) (op3 mod_ok (op3 fdiv_ok (n3 0) i3) i3) (fun _ _ => rfl)))
    (ss_cons (s_set (i := 5) S.nd rfl (by first | exact Or.inl rfl | exact Or.inr rfl) (op3 mod_ok (op3 fdiv_ok (n3 0) i3) i3))
    (ss_cons (s_set (i := 6) S.nd rfl (by first | exact Or.inl rfl | exact Or.inr rfl) (op3 mod_ok (op3 fdiv_ok (n3 0) i3) i3))
    (ss_cons (s_if (pw3 (and3_ok (tcmp3 (eq_ok hr.units) (n3 1) i3 (nomark _)) (and1_3 (tcmp3 (ne_ok hr.units) (op3 mod_ok (op3 fdiv_ok (n3 0) i3) i3) i3 (nomark _))))) (ss_one (s_set (i := 6) S.nd rfl (by first | exact Or.inl rfl | exact Or.inr rfl) (op3 add3_ok (n3 6) (n3 2)))) ss_nil)
    (ss_cons (s_set (i := 7) S.nd rfl (by first | exact Or.inl rfl | exact Or.inr rfl) (op3 fdiv_ok (n3 0) i3))
    (ss_cons (s_set (i := 8) S.nd rfl (by first | exact Or.inl rfl | exact Or.inr rfl) i3)
    (ss_cons (s_set (i := 9) S.nd rfl (by first | exact Or.inl rfl | exact Or.inr rfl) (op3 mod_ok (n3 7) i3))
    (ss_cons (s_own (i := 10) S.nd rfl (by first | exact Or.inl rfl | exact Or.inr rfl) (lst3_ok a_nil))
    (ss_cons (s_for PassesOwn.leaving rfl (it_range2 rfl T.n_range (a_cons i3 (a_cons (op3 add3_ok (op3 add3_ok (n3 5) (n3 6)) i3) a_nil))) (t_name (i := 11) S.nd rfl (by first | exact Or.inl rfl | exact Or.inr rfl)) (ss_cons (s_set (i := 12) S.nd rfl (by first | exact Or.inl rfl | exact Or.inr rfl) (op3 fdiv_ok (n3 7) i3))
      (ss_cons (s_set (i := 7) S.nd rfl (by first | exact Or.inl rfl | exact Or.inr rfl) (op3 fdiv_ok (n3 7) (op3 mul_ok (n3 3) (n3 4))))
      (ss_cons (s_if (pw3 (or3_ok (tcmp3 gt_ok (n3 11) i3 (nomark _)) (or1_3 (tcmp3 (eq_ok hr.units) (op3 mod_ok (n3 0) i3) i3 (nomark _))))) (ss_one (s_set (i := 8) S.nd rfl (by first | exact Or.inl rfl | exact Or.inr rfl) (callB3 (min2_ok rfl) rfl T.n_min bo_min (a_cons (op3 add3_ok (n3 2) i3) (a_cons (op3 add3_ok (n3 8) (op3 mod_ok (n3 12) (n3 3))) a_nil))))) ss_nil)
      (ss_cons (s_set (i := 9) S.nd rfl (by first | exact Or.inl rfl | exact Or.inr rfl) (callB3 (min2_ok rfl) rfl T.n_min bo_min (a_cons (n3 2) (a_cons (op3 add3_ok (n3 9) (op3 mod_ok (op3 fdiv_ok (n3 12) (n3 3)) (n3 4))) a_nil))))
      (ss_one (s_if (tcmp3 le_ok (n3 11) (n3 5) (nomark _)) (ss_one (s_append (i := 10) rfl (by first | exact Or.inl rfl | exact Or.inr (Or.inl rfl) | exact Or.inr (Or.inr rfl)) (tup3_ok (a_cons (n3 1) (a_cons (n3 11) (a_cons (n3 8) (a_cons (n3 9) a_nil))))))) (ss_one (s_append (i := 10) rfl (by first | exact Or.inl rfl | exact Or.inr (Or.inl rfl) | exact Or.inr (Or.inr rfl)) (tup3_ok (a_cons (n3 1) (a_cons (n3 11) (a_cons (n3 8) (a_cons non3 a_nil))))))))))))))
    (ss_one (s_frz [10] (s_ret (n3 10)))))))))))))), fun ds Q h => ?_⟩
  obtain ⟨x, c, T, rfl, hx, hT1, hT, q⟩ := h
  refine seq_step fun N hN => ?_
  walk_at "rd"
  obtain ⟨st, hst, st1, st9⟩ := list4 (i := x % 4) (by omega) (by omega)
  refine ⟨by decide, _, hst, hN _ ?_⟩
  clear hN N hst
  refine seq_step fun N hN => ?_
  walk_at "rd"
  obtain ⟨la, hla, la1, la9⟩ := list4 (i := x / 4 % 4) (by omega) (by omega)
  refine ⟨divQ, by decide, _, hla, hN _ ?_⟩
  clear hN N hla
  refine seq_step fun N hN => ?_
  walk_at "rd"
  refine ⟨divQ, by decide, hN _ ?_⟩
  clear hN N
  have hdue : 0 ≤ x / 16 % 13 ∧ x / 16 % 13 ≤ 12 := by omega
  generalize x / 16 % 13 = due at hdue ⊢
  refine seq_step fun N hN => ?_
  walk_at "rd"
  refine ⟨divQ, by decide, hN _ ?_⟩
  clear hN N
  have hex : 0 ≤ x / 208 % 6 ∧ x / 208 % 6 ≤ 5 := by omega
  generalize x / 208 % 6 = ex0 at hex ⊢
  refine seq_mid (fun ρ' => ∃ ex : Int, 0 ≤ ex ∧ ex ≤ 65 ∧ ρ' = [some (.sh true (.int x)), some (.sh true (.int c)), some (.sh true (.int T)), some (.sh true (.int st)), some (.sh true (.int la)), some (.sh true (.int due)), some (.sh true (.int ex)), none, none, none, none, none, none]) (fun N hN => ?_) ?_
  · walk_at "rd"
    exact ite2 (fun _ => ⟨divQ, by decide, ite2 (fun _ => hN _ ⟨_, by omega, by omega, rfl⟩) fun _ => hN _ ⟨_, by omega, by omega, rfl⟩⟩) fun _ => hN _ ⟨_, by omega, by omega, rfl⟩
  rintro ρ ⟨ex, hex0, hex1, rfl⟩
  obtain ⟨many, hmany⟩ : ∃ m : Nat, due + ex = (m : Int) := ⟨(due + ex).toNat, by omega⟩
  have hm : many ≤ 77 := by omega
  refine seq_step fun N hN => ?_
  walk_at "rd"
  refine ⟨divQ, hN _ ?_⟩
  clear hN N
  have hrest : 0 ≤ x / 3744 := Int.ediv_nonneg hx (by decide)
  generalize x / 3744 = rest0 at hrest ⊢
  refine seq_step fun N hN => ?_
  walk_at "rd"
  refine hN _ ?_
  clear hN N
  refine seq_step fun N hN => ?_
  walk_at "rd"
  refine ⟨by decide, hN _ ?_⟩
  clear hN N
  generalize rest0 % 4 = last0
  refine seq_step fun N hN => ?_
  walk_at "rd"
  refine hN _ ?_
  clear hN N
  refine seq_step fun N hN => ?_
  walk_at "rd"
  refine ⟨by decide, by decide, by omega, by omega, ?_⟩
  rw [show (due + ex + 1 - 1).toNat = many by omega]
  have hmul := (Bits.lit (x := st) 64 (by omega)).mulOk (Bits.lit (x := la) 64 (by omega)) (by decide)
  have hsl : 0 < st * la := Int.mul_pos (by omega) (by omega)
  have hsl2 : st * la ≤ 9 * 9 := Int.mul_le_mul st9 la9 (by omega) (by omega)
  refine for_nums (fun j ρ => ∃ (V' : List Win) (rest opens last : Int) (t11 t12 : Option L3.Cl), ρ = [some (.sh true (.int x)), some (.sh true (.int c)), some (.sh true (.int T)), some (.sh true (.int st)), some (.sh true (.int la)), some (.sh true (.int due)), some (.sh true (.int ex)), some (.sh true (.int rest)), some (.sh true (.int opens)), some (.sh true (.int last)), some (.ow true (V'.map dW)), t11, t12] ∧ OkVs T V' ∧ V'.length ≤ j ∧ (∀ v ∈ V', v.1 = c) ∧ (∀ v ∈ V', v.2.1 ≤ (j : Int) ∧ v.2.2.1 ≤ opens ∧ ((j : Int) ≤ due → kl T v ≤ last ∧ last ≤ T)) ∧ (∀ i : Int, 1 ≤ i → i ≤ (j : Int) → ∃ u ∈ V', keyW u = (c, i)) ∧ 1 ≤ opens ∧ opens ≤ T + 1 ∧ 0 ≤ rest) ?_ ?_
    ⟨[], rest0, 1, last0, none, none, rfl, OkVs.nil T, by simp, fun v h => (by cases h), fun v h => (by cases h), fun i h1 h2 => absurd h1 (by omega), by decide, by omega, hrest⟩
  · rintro j ρ hj ⟨V', rest, opens, last, t11, t12, rfl, ok', hl', hv', hc', hp', ho1, ho2, hre⟩ W hW
    simp only [gn3, List.set_cons_zero, List.set_cons_succ, scal3, Bool.or_true]
    refine seq_step fun N' hN' => ?_
    walk_at "rd"
    refine ⟨divQ, hN' _ ?_⟩
    clear hN' N'
    have hh : 0 ≤ rest / 4 := Int.ediv_nonneg hre (by decide)
    generalize rest / 4 = here at hh ⊢
    refine seq_step fun N' hN' => ?_
    walk_at "rd"
    refine ⟨hmul, divQ hsl (by omega), hN' _ ?_⟩
    clear hN' N'
    have hre' : 0 ≤ rest / (st * la) := Int.ediv_nonneg hre (by omega)
    generalize rest / (st * la) = rest' at hre' ⊢
    refine seq_mid (fun ρ' => ∃ opens' : Int, opens ≤ opens' ∧ opens' ≤ T + 1 ∧ ρ' = [some (.sh true (.int x)), some (.sh true (.int c)), some (.sh true (.int T)), some (.sh true (.int st)), some (.sh true (.int la)), some (.sh true (.int due)), some (.sh true (.int ex)), some (.sh true (.int rest')), some (.sh true (.int opens')), some (.sh true (.int last)), some (.ow true (V'.map dW)), some (.sh true (.int (1 + (j : Int)))), some (.sh true (.int here))]) (fun N' hN' => ?_) ?_
    · have hq : 0 ≤ here % st := Int.emod_nonneg _ (by omega)
      have hopen : opens ≤ (if opens + here % st < T + 1 then opens + here % st else T + 1) ∧ (if opens + here % st < T + 1 then opens + here % st else T + 1) ≤ T + 1 := by split <;> omega
      walk_at "rd"
      exact ite2 (fun _ => ⟨by omega, hN' _ ⟨_, hopen.1, hopen.2, rfl⟩⟩) fun _ => ⟨by decide, ite2 (fun _ => ⟨by omega, hN' _ ⟨_, hopen.1, hopen.2, rfl⟩⟩) fun _ => hN' _ ⟨_, by omega, by omega, rfl⟩⟩
    rintro ρ ⟨opens', hop1, hop2, rfl⟩
    refine seq_step fun N' hN' => ?_
    walk_at "rd"
    refine ⟨divQ (by omega) (by omega), by omega, hN' _ ?_⟩
    clear hN' N'
    have hq : 0 ≤ here / st % la := Int.emod_nonneg _ (by omega)
    have hl3 : (last ≤ T → last ≤ (if last + here / st % la < T then last + here / st % la else T)) ∧ (if last + here / st % la < T then last + here / st % la else T) ≤ T := by split <;> omega
    generalize (if last + here / st % la < T then last + here / st % la else T) = last' at hl3 ⊢
    have fin : ∀ l : Option Int, (l = if 1 + (j : Int) ≤ due then some last' else none) → W [some (.sh true (.int x)), some (.sh true (.int c)), some (.sh true (.int T)), some (.sh true (.int st)), some (.sh true (.int la)), some (.sh true (.int due)), some (.sh true (.int ex)), some (.sh true (.int rest')), some (.sh true (.int opens')), some (.sh true (.int last')), some (.ow true ((V' ++ [(c, 1 + (j : Int), opens', l)]).map dW)), some (.sh true (.int (1 + (j : Int)))), some (.sh true (.int here))] := by
      intro l hlq
      have hnew : OkVs T (V' ++ [(c, 1 + (j : Int), opens', l)]) := by
        refine ok'.snoc (v := (c, 1 + (j : Int), opens', l)) (by show 1 ≤ 1 + (j : Int); omega) (by show 1 ≤ opens'; omega) (fun i h1 h2 => hp' i h1 (by have h2 : i < 1 + (j : Int) := h2; omega)) (fun u hu e => ?_) (fun y hy => ?_)
        · obtain ⟨a1, a2, a3⟩ := hc' u hu
          refine ⟨by show u.2.1 < 1 + (j : Int); omega, by show u.2.2.1 ≤ opens'; omega, ?_⟩
          show kl T u ≤ l.getD (T + 1)
          by_cases hd : 1 + (j : Int) ≤ due
          · rw [hlq, if_pos hd]
            obtain ⟨b1, b2⟩ := a3 (by omega)
            have := hl3.1 b2
            show kl T u ≤ last'
            omega
          · rw [hlq, if_neg hd]; exact kl_top ok' hu
        · have hy : l = some y := hy
          rw [hlq] at hy
          split at hy
          · cases hy; exact hl3.2
          · cases hy
      refine hW _ ⟨_, rest', opens', last', _, _, rfl, hnew, by rw [List.length_append]; simp; omega, fun v h => ?_, fun v h => ?_, fun i h1 h2 => ?_, by omega, hop2, hre'⟩
      · rcases List.mem_append.mp h with z | z
        · exact hv' v z
        · rw [List.mem_singleton.mp z]
      · rcases List.mem_append.mp h with z | z
        · obtain ⟨a1, a2, a3⟩ := hc' v z
          refine ⟨by omega, by omega, fun hd => ?_⟩
          obtain ⟨b1, b2⟩ := a3 (by omega)
          have := hl3.1 b2
          exact ⟨by omega, hl3.2⟩
        · rw [List.mem_singleton.mp z]
          refine ⟨by show 1 + (j : Int) ≤ _; omega, Int.le_refl _, fun hd => ⟨?_, hl3.2⟩⟩
          show l.getD (T + 1) ≤ last'
          rw [hlq, if_pos (by omega)]
          exact Int.le_refl _
      · by_cases hi : i ≤ (j : Int)
        · obtain ⟨u, hu, e⟩ := hp' i h1 hi
          exact ⟨u, List.mem_append_left _ hu, e⟩
        · refine ⟨(c, 1 + (j : Int), opens', l), by simp, ?_⟩
          have : i = 1 + (j : Int) := by omega
          rw [this]; rfl
    have hsz : V'.length < sizeLine := Nat.lt_of_lt_of_le (show V'.length < 1000 by omega) (by decide)
    simp (config := { maxSteps := 2000000 }) only [seq3, next3, set3, own3, ret3, ifS3, tt3, o3, v3, atV, asS, asB, asD, optP, asT, asLd, asL, atO, consP, nilP, asId, asI, k3, nw3, add3, int3, int0, eq3, ne3, eqOk, eqv3, isN3, notN3, isNone, ix3, ixD, cons3, nil3, call3, cb3, len3, lenD, min23, all3, if3, and3, or3, not3, andV3, notV3, tup3, lst3, listN, catN, isi3', L2.isD, gn3, gtup3, gcons3, gnil3, app3, frzS, frz, frz1, for3, itL, rg1, rg2, comp3, true3, cst3, start3, shs, Cl.d, Cl.dat, Cl.f, scal3, Option.map_some, Option.map_none, Option.isSome_some, Option.isSome_none, Option.join_some, Option.join_none, List.all_cons, List.all_nil, Bool.and_true, Bool.true_and, Bool.and_self, Bool.or_false, Bool.false_or, Bool.or_true, Bool.true_or, List.map_cons, List.map_nil, List.length_cons, List.length_nil, Nat.reduceAdd, Nat.reduceSub, Nat.sub_self, List.replicate, List.cons_append, List.nil_append, List.append_nil, List.getElem?_cons_zero, List.getElem?_cons_succ, List.set_cons_zero, List.set_cons_succ, Option.some.injEq, Cl.sh.injEq, Cl.ow.injEq, PyData.int.injEq, PyData.bool.injEq, PyData.str.injEq, PyData.list.injEq, PyData.tuple.injEq, List.cons.injEq, reduceCtorEq, and_assoc, and_true, true_and, and_self, exists_eq_left, exists_eq_left', exists_eq', exists_eq_right, exists_eq_right', exists_and_left, exists_const, exists_false, false_and, and_false, or_false, false_or, or_true, true_or, decide_true, decide_false, decide_eq_true_eq, Bool.not_true, Bool.not_false, Bool.false_eq_true, Bool.true_eq_false, if_true, if_false, ite_true, ite_false, Bool.not_eq_true', decide_eq_false_iff_not, eq_self_iff_true, not_true_eq_false, not_false_eq_true, sz0, sz2, sz3, sz4, appPop3, thawT, itE, sort3, seqX, itE1, rmv3, ltT3, as3, thawL, callS3, callY3, yend3, ifX3, weakE, weak1, sp_law_cell_at, sp_law_of_clan, sp_law_drawn_at, sp_law_visits, sp_law_first, sp_law_dealt, sp_is_late, sp_place_of_opened, sp_start_of_crowd, sp_pressing, sp_deal, sp_law_whole, sp_law_told, sp_law, dI, atI0, atI1, atI2, atI3, List.length_map]
    by_cases hd : 1 + (j : Int) ≤ due
    · rw [if_pos hd]
      have := fin _ (if_pos hd).symm
      rw [List.map_append] at this
      exact ⟨hsz, this⟩
    · rw [if_neg hd]
      have := fin _ (if_neg hd).symm
      rw [List.map_append] at this
      exact ⟨hsz, this⟩
  · rintro ρ ⟨V', rest, opens, last, t11, t12, rfl, ok', hl', hv', _⟩
    refine hN _ ?_
    clear hN N
    walk_at "rd"
    exact q V' ok' (by omega) hv'

theorem ok_law_of_clan (T : Txt c K mg)  : Df3 P w K mg base 1 "_law_of_clan" ["_law_cell", "_law_clan", "_law_turns"] sp_law_of_clan := by
  obtain ⟨f, fd, F, hm⟩ := T.d_law_of_clan
  have hb := F.binds (ps := ["_law_cell", "_law_clan", "_law_turns"]) fun _ _ _ _ _ _ us hl => by obtain ⟨_, _, _, rfl⟩ := arity3 hl; rfl
  refine ⟨fun ds Q Q' E E' hQ hE h => ?_, ⟨f, fd, fn_law_of_clan T  F, hb, F.kp, hm⟩⟩
  obtain ⟨a, b, d, e, x1, x2, x3, h⟩ := h; exact ⟨a, b, d, e, x1, x2, x3, fun v y1 y2 y3 => hQ _ _ (h v y1 y2 y3)⟩
theorem sc_law_drawn_at : FnScope ["_law_script", "_law_k", "_law_cell", "_law_place"] ["_law_script", "_law_k"] (defScope s_law_drawn_at) := ⟨rfl, rfl, rfl, by decide +kernel, rfl, by decide +kernel, by decide +kernel⟩
set_option maxHeartbeats 4000000 in
theorem fn_law_drawn_at (T : Txt c K mg) (G_law_cell_at : Df3 P w K mg base 1 "_law_cell_at" ["_law_script", "_law_k"] sp_law_cell_at) {f : Addr} {fd : FuncData} (F : Fun K "_law_drawn_at" "_law_drawn_at" s_law_drawn_at f fd) : FnOk P w K mg base (CXR P w) 2 f fd ["_law_script", "_law_k"] (spL K sp_law_drawn_at) := by
  have S := sc_law_drawn_at
  refine fn3 F S (fun ds Q E h => ?_) (fun cdv A outer s H E E3 hE hr => ?_)
  · obtain ⟨_, _, rfl, _⟩ := h; rfl
  refine ⟨_, (ss_cons (s_set (i := 2) S.nd rfl (by first | exact Or.inl rfl | exact Or.inr rfl) (op3 mod_ok (df3 hE G_law_cell_at (hr.mono (by decide)) rfl passR (a_cons (n3 0) (a_cons (n3 1) a_nil))) (op3 pow_ok i3 i3)))
    (ss_cons (s_if (tcmp3 lt_ok (n3 2) (op3 pow_ok i3 i3) (nomark _)) (ss_cons (s_set (i := 3) S.nd rfl (by first | exact Or.inl rfl | exact Or.inr rfl) (op3 add3_ok (n3 1) (op3 mul_ok i3 (op3 mod_ok (df3 hE G_law_cell_at (hr.mono (by decide)) rfl passR (a_cons (n3 0) (a_cons i3 a_nil))) i3))))
      (ss_cons (s_set (i := 2) S.nd rfl (by first | exact Or.inl rfl | exact Or.inr rfl) (op3 mod_ok (op3 mul_ok (op3 add3_ok (n3 2) (op3 mul_ok i3 (op3 add3_ok (n3 3) i3))) i3) (op3 pow_ok i3 i3)))
      (ss_one (s_set (i := 2) S.nd rfl (by first | exact Or.inl rfl | exact Or.inr rfl) (op3 mod_ok (op3 fdiv_ok (op3 mul_ok (n3 2) (n3 2)) (op3 pow_ok i3 i3)) (op3 pow_ok i3 i3)))))) ss_nil)
    (ss_one (s_ret (n3 2))))), fun ds Q h => ?_⟩
  obtain ⟨ns, k, rfl, h0, h64, q⟩ := h
  walk_at "rd"
  have cp : ∀ n : Int, 0 ≤ n → n ≤ 100 → CPowB 10 n := fun n h h' => powB (k := 4) (by unfold Bits; decide) h (by omega)
  refine ⟨ns, rfl, h0, fun v => ⟨c64, by decide, cp 12 (by decide) (by decide), ?_⟩⟩
  have hv := Int.emod_nonneg v (show (10 : Int) ^ Int.toNat 64 ≠ 0 by decide)
  have b1 : Bits 256 (v % 10 ^ Int.toNat 64) := Bits.emod (by unfold Bits; decide) (by decide) _
  generalize v % 10 ^ Int.toNat 64 = y at hv b1 ⊢
  refine ite2 (fun _ => ⟨ns, rfl, by decide, fun u => ?_⟩) fun _ => q _ hv
  have hu : 0 ≤ u % 64 ∧ u % 64 < 64 := by omega
  generalize u % 64 = m at hu ⊢
  have hk : Bits 64 (k + 64 * m + 1) := by unfold Bits; omega
  have b2 := ((Bits.lit (x := 1442695040888963407) 64).mul hk).mono (show 64 + 64 ≤ 256 by decide)
  have b3 := b1.add b2
  have hm := (Bits.lit (x := 1442695040888963407) 64).mulOk hk (by decide)
  have hl := (Bits.lit (x := 64) 64).mulOk (Bits.lit (x := m) 64 (by omega)) (by decide)
  generalize y + 1442695040888963407 * (k + 64 * m + 1) = z at b3 ⊢
  have hz := Int.emod_nonneg (z * 6364136223846793005) (show (10 : Int) ^ Int.toNat 37 ≠ 0 by decide)
  have b4 : Bits 130 (z * 6364136223846793005 % 10 ^ Int.toNat 37) := Bits.emod (by unfold Bits; decide) (by decide) _
  have hm2 := b3.mulOk (Bits.lit (x := 6364136223846793005) 64) (by decide)
  generalize z * 6364136223846793005 % 10 ^ Int.toNat 37 = x at hz b4 ⊢
  exact ⟨by decide, hl, hm, hm2, cp 37 (by decide) (by decide), by decide, b4.mulOk b4 (by decide), cp 17 (by decide) (by decide), divQ, cp 56 (by decide) (by decide), by decide, q _ (Int.emod_nonneg _ (by decide))⟩
theorem ok_law_drawn_at (T : Txt c K mg) (G_law_cell_at : Df3 P w K mg base 1 "_law_cell_at" ["_law_script", "_law_k"] sp_law_cell_at) : Df3 P w K mg base 2 "_law_drawn_at" ["_law_script", "_law_k"] sp_law_drawn_at := by
  obtain ⟨f, fd, F, hm⟩ := T.d_law_drawn_at
  have hb := F.binds (ps := ["_law_script", "_law_k"]) fun _ _ _ _ _ _ us hl => by obtain ⟨_, _, rfl⟩ := arity2 hl; rfl
  refine ⟨fun ds Q Q' E E' hQ hE h => ?_, ⟨f, fd, fn_law_drawn_at T G_law_cell_at F, hb, F.kp, hm⟩⟩
  obtain ⟨a, b, e, z, y, h⟩ := h; exact ⟨a, b, e, z, y, fun v x => hQ _ _ (h v x)⟩
theorem sc_law_visits : FnScope ["_law_script", "_law_turns", "_law_first_here", "_law_made", "_law_clan"] ["_law_script", "_law_turns"] (defScope s_law_visits) := ⟨rfl, rfl, rfl, by decide +kernel, rfl, by decide +kernel, by decide +kernel⟩
set_option maxHeartbeats 4000000 in
theorem fn_law_visits (T : Txt c K mg) (G_law_cell_at : Df3 P w K mg base 1 "_law_cell_at" ["_law_script", "_law_k"] sp_law_cell_at) (G_law_of_clan : Df3 P w K mg base 1 "_law_of_clan" ["_law_cell", "_law_clan", "_law_turns"] sp_law_of_clan) (G_law_drawn_at : Df3 P w K mg base 2 "_law_drawn_at" ["_law_script", "_law_k"] sp_law_drawn_at) {f : Addr} {fd : FuncData} (F : Fun K "_law_visits" "_law_visits" s_law_visits f fd) : FnOk P w K mg base (CXR P w) 3 f fd ["_law_script", "_law_turns"] (spL K sp_law_visits) := by
  have S := sc_law_visits
  refine fn3 F S (fun ds Q E h => ?_) (fun cdv A outer s H E E3 hE hr => ?_)
  · obtain ⟨_, _, rfl, _⟩ := h; rfl
  refine ⟨_, (ss_cons (s_set (i := 2) S.nd rfl (by first | exact Or.inl rfl | exact Or.inr rfl) (op3 fdiv_ok (df3 hE G_law_cell_at (hr.mono (by decide)) rfl passR (a_cons (n3 0) (a_cons i3 a_nil))) i3))
    (ss_cons (s_set (i := 3) S.nd rfl (by first | exact Or.inl rfl | exact Or.inr rfl) (new3 (lst3_ok a_nil)))
    (ss_cons (s_for PassesOwn.leaving rfl (it_range1 rfl T.n_range (a_cons (op3 add3_ok i3 (op3 mod_ok (n3 2) i3)) a_nil)) (t_name (i := 4) S.nd rfl (by first | exact Or.inl rfl | exact Or.inr rfl)) (ss_one (s_set (i := 3) S.nd rfl (by first | exact Or.inl rfl | exact Or.inr rfl) (new3 (cat3 (n3 3) (df3 hE G_law_of_clan (hr.mono (by decide)) rfl passR (a_cons (df3 hE G_law_drawn_at (hr.mono (by decide)) rfl passR (a_cons (n3 0) (a_cons (op3 add3_ok i3 (n3 4)) a_nil))) (a_cons (n3 4) (a_cons (n3 1) a_nil)))))))))
    (ss_one (s_ret (n3 3)))))), fun ds Q h => ?_⟩
  obtain ⟨ns, T, rfl, hT1, hT, q⟩ := h
  refine seq_step fun N hN => ?_
  walk_at "rd"
  refine ⟨ns, rfl, by decide, fun v => ?_⟩
  refine ⟨divQ, hN _ ?_⟩
  clear hN N
  have hn0 : 0 ≤ v / 60 % 8 ∧ v / 60 % 8 < 8 := by omega
  generalize hg : v / 60 = first at hn0 ⊢
  obtain ⟨n, hn⟩ : ∃ n : Nat, 1 + first % 8 = (n : Int) := ⟨(1 + first % 8).toNat, by omega⟩
  have hn8 : n ≤ 8 := by omega
  refine seq_step fun N hN => ?_
  walk_at "rd"
  refine hN _ ?_
  clear hN N
  refine seq_step fun N hN => ?_
  walk_at "rd"
  refine ⟨by decide, by omega, by omega, ?_⟩
  rw [hn, Int.toNat_natCast]
  refine for_nums (fun k ρ => ∃ (V : List Win) (t4 : Option L3.Cl), ρ = [some (.sh false (.list (ns.map .int))), some (.sh true (.int T)), some (.sh true (.int first)), some (.sh true (.list (V.map dW))), t4] ∧ OkVs T V ∧ V.length ≤ 77 * k ∧ ∀ v ∈ V, v.1 < (k : Int)) ?_ ?_ ⟨[], none, rfl, OkVs.nil T, by simp, fun v h => by cases h⟩
  · rintro k ρ hk ⟨V, t4, rfl, ok, hl, hv⟩ W hW
    simp only [gn3, List.set_cons_zero, List.set_cons_succ, scal3, Bool.or_true]
    walk_at "rd"
    refine ⟨ns, rfl, by omega, by omega, fun x hx => ⟨hx, hT1, hT, fun B okB lB cB => ⟨sz (by rw [List.length_map, List.length_map]; omega), hW _ ⟨V ++ B, _, by rw [List.map_append], ok.app (c := (k : Int)) okB hv fun v h => ?_, by rw [List.length_append]; omega, fun v h => ?_⟩⟩⟩⟩
    · rw [cB v h]; omega
    · rcases List.mem_append.mp h with z | z
      · have := hv v z; omega
      · have := cB v z; omega
  · rintro ρ ⟨V, t4, rfl, ok, hl, hv⟩
    refine hN _ ?_
    clear hN N
    walk_at "rd"
    exact q V ok (by omega)
theorem ok_law_visits (T : Txt c K mg) (G_law_cell_at : Df3 P w K mg base 1 "_law_cell_at" ["_law_script", "_law_k"] sp_law_cell_at) (G_law_of_clan : Df3 P w K mg base 1 "_law_of_clan" ["_law_cell", "_law_clan", "_law_turns"] sp_law_of_clan) (G_law_drawn_at : Df3 P w K mg base 2 "_law_drawn_at" ["_law_script", "_law_k"] sp_law_drawn_at) : Df3 P w K mg base 3 "_law_visits" ["_law_script", "_law_turns"] sp_law_visits := by
  obtain ⟨f, fd, F, hm⟩ := T.d_law_visits
  have hb := F.binds (ps := ["_law_script", "_law_turns"]) fun _ _ _ _ _ _ us hl => by obtain ⟨_, _, rfl⟩ := arity2 hl; rfl
  refine ⟨fun ds Q Q' E E' hQ hE h => ?_, ⟨f, fd, fn_law_visits T G_law_cell_at G_law_of_clan G_law_drawn_at F, hb, F.kp, hm⟩⟩
  obtain ⟨a, b, e, x1, x2, h⟩ := h; exact ⟨a, b, e, x1, x2, fun v y1 y2 => hQ _ _ (h v y1 y2)⟩
theorem sc_law_first : FnScope ["_law_waiting", "_law_turn", "_law_best", "_law_window", "_law_late"] ["_law_waiting", "_law_turn"] (defScope s_law_first) := ⟨rfl, rfl, rfl, by decide +kernel, rfl, by decide +kernel, by decide +kernel⟩
set_option maxHeartbeats 4000000 in
theorem fn_law_first (T : Txt c K mg)  {f : Addr} {fd : FuncData} (F : Fun K "_law_first" "_law_first" s_law_first f fd) : FnOk P w K mg base (CXR P w) 1 f fd ["_law_waiting", "_law_turn"] (spL K sp_law_first) := by
  have S := sc_law_first
  refine fn3 F S (fun ds Q E h => ?_) (fun cdv A outer s H E E3 hE hr => ?_)
  · obtain ⟨_, _, rfl, _⟩ := h; rfl
  refine ⟨_, (ss_cons (s_set (i := 2) S.nd rfl (by first | exact Or.inl rfl | exact Or.inr rfl) non3)
    (ss_cons (s_for PassesOwn.leaving rfl (it_list (n3 0)) (t_name (i := 3) S.nd rfl (by first | exact Or.inl rfl | exact Or.inr rfl)) (ss_one (s_if (tcmp3 le_ok (at3 (n3 3) i3 (fun _ _ => rfl)) (n3 1) (nomark _)) (ss_cons (s_set (i := 4) S.nd rfl (by first | exact Or.inl rfl | exact Or.inr rfl) (at3 (n3 3) i3 (fun _ _ => rfl)))
        (ss_cons (s_if (tcmp3 isN_ok (n3 4) non3 (nomark _)) (ss_one (s_set (i := 4) S.nd rfl (by first | exact Or.inl rfl | exact Or.inr rfl) i3)) ss_nil)
        (ss_one (s_if (pw3 (or3_ok (tcmp3 isN_ok (n3 2) non3 (nomark _)) (or1_3 (tcmp3 (ltT_ok (Nat.lt_of_le_of_lt (Nat.le_add_right _ 64) hr.units)) (tup3_ok (a_cons (n3 4) (a_cons (at3 (n3 3) i3 (fun _ _ => rfl)) (a_cons (at3 (n3 3) i3 (fun _ _ => rfl)) a_nil)))) (at3 (n3 2) i3 (fun _ _ => rfl)) (nomark _))))) (ss_one (s_set (i := 2) S.nd rfl (by first | exact Or.inl rfl | exact Or.inr rfl) (tup3_ok (a_cons (tup3_ok (a_cons (n3 4) (a_cons (at3 (n3 3) i3 (fun _ _ => rfl)) (a_cons (at3 (n3 3) i3 (fun _ _ => rfl)) a_nil)))) (a_cons (n3 3) a_nil))))) ss_nil)))) ss_nil)))
    (ss_one (s_ret (n3 2))))), fun ds Q h => ?_⟩
  obtain ⟨w, t, rfl, q⟩ := h
  refine seq_step fun N hN => ?_
  walk_at "rd"
  refine hN _ ?_
  clear hN N
  refine seq_step fun N hN => ?_
  walk_at "rd"
  refine for_list dW w (fun done ρ => ∃ b t3 t4, ρ = [some (.sh false (.list (w.map dW))), some (.sh true (.int t)), some (.sh b.isNone (encB b)), t3, t4] ∧ BestP t done b) ?_ ?_ ⟨none, none, none, rfl, fun v h => by cases h⟩
  · rintro done v rest ρ hd ⟨b, t3, t4, rfl, hb⟩ W hW
    simp only [gn3, List.set_cons_zero, List.set_cons_succ, scal3, Bool.or_true]
    obtain ⟨c, j, o, l⟩ := v
    cases l with
    | none =>
      cases b with
      | none =>
        simp (config := { maxSteps := 2000000 }) only [seq3, next3, set3, own3, ret3, ifS3, tt3, o3, v3, atV, asS, asB, asD, optP, asT, asLd, asL, atO, consP, nilP, asId, asI, k3, nw3, add3, int3, int0, eq3, ne3, eqOk, eqv3, isN3, notN3, isNone, ix3, ixD, cons3, nil3, call3, cb3, len3, lenD, min23, all3, if3, and3, or3, not3, andV3, notV3, tup3, lst3, listN, catN, isi3', L2.isD, gn3, gtup3, gcons3, gnil3, app3, frzS, frz, frz1, for3, itL, rg1, rg2, comp3, true3, cst3, start3, shs, Cl.d, Cl.dat, Cl.f, scal3, Option.map_some, Option.map_none, Option.isSome_some, Option.isSome_none, Option.join_some, Option.join_none, List.all_cons, List.all_nil, Bool.and_true, Bool.true_and, Bool.and_self, Bool.or_false, Bool.false_or, Bool.or_true, Bool.true_or, List.map_cons, List.map_nil, List.length_cons, List.length_nil, Nat.reduceAdd, Nat.reduceSub, Nat.sub_self, List.replicate, List.cons_append, List.nil_append, List.append_nil, List.getElem?_cons_zero, List.getElem?_cons_succ, List.set_cons_zero, List.set_cons_succ, Option.some.injEq, Cl.sh.injEq, Cl.ow.injEq, PyData.int.injEq, PyData.bool.injEq, PyData.str.injEq, PyData.list.injEq, PyData.tuple.injEq, List.cons.injEq, reduceCtorEq, and_assoc, and_true, true_and, and_self, exists_eq_left, exists_eq_left', exists_eq', exists_eq_right, exists_eq_right', exists_and_left, exists_const, exists_false, false_and, and_false, or_false, false_or, or_true, true_or, decide_true, decide_false, decide_eq_true_eq, Bool.not_true, Bool.not_false, Bool.false_eq_true, Bool.true_eq_false, if_true, if_false, ite_true, ite_false, Bool.not_eq_true', decide_eq_false_iff_not, eq_self_iff_true, not_true_eq_false, not_false_eq_true, sz0, sz2, sz3, sz4, appPop3, thawT, itE, sort3, seqX, itE1, rmv3, ltT3, as3, thawL, callS3, callY3, yend3, ifX3, weakE, weak1, sp_law_cell_at, sp_law_of_clan, sp_law_drawn_at, sp_law_visits, sp_law_first, sp_law_dealt, sp_is_late, sp_place_of_opened, sp_start_of_crowd, sp_pressing, sp_deal, sp_law_whole, sp_law_told, sp_law, dI, atI0, atI1, atI2, atI3, dW, dO, encB, Option.isNone]
        exact ite2 (fun h => hW _ ⟨some (c, j, o, none), _, _, rfl, best_first hb h⟩) fun h => hW _ ⟨none, _, _, rfl, best_skip hb h⟩
      | some x =>
        simp (config := { maxSteps := 2000000 }) only [seq3, next3, set3, own3, ret3, ifS3, tt3, o3, v3, atV, asS, asB, asD, optP, asT, asLd, asL, atO, consP, nilP, asId, asI, k3, nw3, add3, int3, int0, eq3, ne3, eqOk, eqv3, isN3, notN3, isNone, ix3, ixD, cons3, nil3, call3, cb3, len3, lenD, min23, all3, if3, and3, or3, not3, andV3, notV3, tup3, lst3, listN, catN, isi3', L2.isD, gn3, gtup3, gcons3, gnil3, app3, frzS, frz, frz1, for3, itL, rg1, rg2, comp3, true3, cst3, start3, shs, Cl.d, Cl.dat, Cl.f, scal3, Option.map_some, Option.map_none, Option.isSome_some, Option.isSome_none, Option.join_some, Option.join_none, List.all_cons, List.all_nil, Bool.and_true, Bool.true_and, Bool.and_self, Bool.or_false, Bool.false_or, Bool.or_true, Bool.true_or, List.map_cons, List.map_nil, List.length_cons, List.length_nil, Nat.reduceAdd, Nat.reduceSub, Nat.sub_self, List.replicate, List.cons_append, List.nil_append, List.append_nil, List.getElem?_cons_zero, List.getElem?_cons_succ, List.set_cons_zero, List.set_cons_succ, Option.some.injEq, Cl.sh.injEq, Cl.ow.injEq, PyData.int.injEq, PyData.bool.injEq, PyData.str.injEq, PyData.list.injEq, PyData.tuple.injEq, List.cons.injEq, reduceCtorEq, and_assoc, and_true, true_and, and_self, exists_eq_left, exists_eq_left', exists_eq', exists_eq_right, exists_eq_right', exists_and_left, exists_const, exists_false, false_and, and_false, or_false, false_or, or_true, true_or, decide_true, decide_false, decide_eq_true_eq, Bool.not_true, Bool.not_false, Bool.false_eq_true, Bool.true_eq_false, if_true, if_false, ite_true, ite_false, Bool.not_eq_true', decide_eq_false_iff_not, eq_self_iff_true, not_true_eq_false, not_false_eq_true, sz0, sz2, sz3, sz4, appPop3, thawT, itE, sort3, seqX, itE1, rmv3, ltT3, as3, thawL, callS3, callY3, yend3, ifX3, weakE, weak1, sp_law_cell_at, sp_law_of_clan, sp_law_drawn_at, sp_law_visits, sp_law_first, sp_law_dealt, sp_is_late, sp_place_of_opened, sp_start_of_crowd, sp_pressing, sp_deal, sp_law_whole, sp_law_told, sp_law, dI, atI0, atI1, atI2, atI3, dW, dO, encB, Option.isNone, kd3]
        exact ite2 (fun h => ite2 (fun hl => hW _ ⟨some (c, j, o, none), _, _, rfl, best_new hb h hl⟩) fun hl => hW _ ⟨some x, _, _, rfl, best_old hb (Bool.eq_false_iff.mpr hl)⟩) fun h => hW _ ⟨some x, _, _, rfl, best_skip hb h⟩
    | some y =>
      cases b with
      | none =>
        simp (config := { maxSteps := 2000000 }) only [seq3, next3, set3, own3, ret3, ifS3, tt3, o3, v3, atV, asS, asB, asD, optP, asT, asLd, asL, atO, consP, nilP, asId, asI, k3, nw3, add3, int3, int0, eq3, ne3, eqOk, eqv3, isN3, notN3, isNone, ix3, ixD, cons3, nil3, call3, cb3, len3, lenD, min23, all3, if3, and3, or3, not3, andV3, notV3, tup3, lst3, listN, catN, isi3', L2.isD, gn3, gtup3, gcons3, gnil3, app3, frzS, frz, frz1, for3, itL, rg1, rg2, comp3, true3, cst3, start3, shs, Cl.d, Cl.dat, Cl.f, scal3, Option.map_some, Option.map_none, Option.isSome_some, Option.isSome_none, Option.join_some, Option.join_none, List.all_cons, List.all_nil, Bool.and_true, Bool.true_and, Bool.and_self, Bool.or_false, Bool.false_or, Bool.or_true, Bool.true_or, List.map_cons, List.map_nil, List.length_cons, List.length_nil, Nat.reduceAdd, Nat.reduceSub, Nat.sub_self, List.replicate, List.cons_append, List.nil_append, List.append_nil, List.getElem?_cons_zero, List.getElem?_cons_succ, List.set_cons_zero, List.set_cons_succ, Option.some.injEq, Cl.sh.injEq, Cl.ow.injEq, PyData.int.injEq, PyData.bool.injEq, PyData.str.injEq, PyData.list.injEq, PyData.tuple.injEq, List.cons.injEq, reduceCtorEq, and_assoc, and_true, true_and, and_self, exists_eq_left, exists_eq_left', exists_eq', exists_eq_right, exists_eq_right', exists_and_left, exists_const, exists_false, false_and, and_false, or_false, false_or, or_true, true_or, decide_true, decide_false, decide_eq_true_eq, Bool.not_true, Bool.not_false, Bool.false_eq_true, Bool.true_eq_false, if_true, if_false, ite_true, ite_false, Bool.not_eq_true', decide_eq_false_iff_not, eq_self_iff_true, not_true_eq_false, not_false_eq_true, sz0, sz2, sz3, sz4, appPop3, thawT, itE, sort3, seqX, itE1, rmv3, ltT3, as3, thawL, callS3, callY3, yend3, ifX3, weakE, weak1, sp_law_cell_at, sp_law_of_clan, sp_law_drawn_at, sp_law_visits, sp_law_first, sp_law_dealt, sp_is_late, sp_place_of_opened, sp_start_of_crowd, sp_pressing, sp_deal, sp_law_whole, sp_law_told, sp_law, dI, atI0, atI1, atI2, atI3, dW, dO, encB, Option.isNone]
        exact ite2 (fun h => hW _ ⟨some (c, j, o, some y), _, _, rfl, best_first hb h⟩) fun h => hW _ ⟨none, _, _, rfl, best_skip hb h⟩
      | some x =>
        simp (config := { maxSteps := 2000000 }) only [seq3, next3, set3, own3, ret3, ifS3, tt3, o3, v3, atV, asS, asB, asD, optP, asT, asLd, asL, atO, consP, nilP, asId, asI, k3, nw3, add3, int3, int0, eq3, ne3, eqOk, eqv3, isN3, notN3, isNone, ix3, ixD, cons3, nil3, call3, cb3, len3, lenD, min23, all3, if3, and3, or3, not3, andV3, notV3, tup3, lst3, listN, catN, isi3', L2.isD, gn3, gtup3, gcons3, gnil3, app3, frzS, frz, frz1, for3, itL, rg1, rg2, comp3, true3, cst3, start3, shs, Cl.d, Cl.dat, Cl.f, scal3, Option.map_some, Option.map_none, Option.isSome_some, Option.isSome_none, Option.join_some, Option.join_none, List.all_cons, List.all_nil, Bool.and_true, Bool.true_and, Bool.and_self, Bool.or_false, Bool.false_or, Bool.or_true, Bool.true_or, List.map_cons, List.map_nil, List.length_cons, List.length_nil, Nat.reduceAdd, Nat.reduceSub, Nat.sub_self, List.replicate, List.cons_append, List.nil_append, List.append_nil, List.getElem?_cons_zero, List.getElem?_cons_succ, List.set_cons_zero, List.set_cons_succ, Option.some.injEq, Cl.sh.injEq, Cl.ow.injEq, PyData.int.injEq, PyData.bool.injEq, PyData.str.injEq, PyData.list.injEq, PyData.tuple.injEq, List.cons.injEq, reduceCtorEq, and_assoc, and_true, true_and, and_self, exists_eq_left, exists_eq_left', exists_eq', exists_eq_right, exists_eq_right', exists_and_left, exists_const, exists_false, false_and, and_false, or_false, false_or, or_true, true_or, decide_true, decide_false, decide_eq_true_eq, Bool.not_true, Bool.not_false, Bool.false_eq_true, Bool.true_eq_false, if_true, if_false, ite_true, ite_false, Bool.not_eq_true', decide_eq_false_iff_not, eq_self_iff_true, not_true_eq_false, not_false_eq_true, sz0, sz2, sz3, sz4, appPop3, thawT, itE, sort3, seqX, itE1, rmv3, ltT3, as3, thawL, callS3, callY3, yend3, ifX3, weakE, weak1, sp_law_cell_at, sp_law_of_clan, sp_law_drawn_at, sp_law_visits, sp_law_first, sp_law_dealt, sp_is_late, sp_place_of_opened, sp_start_of_crowd, sp_pressing, sp_deal, sp_law_whole, sp_law_told, sp_law, dI, atI0, atI1, atI2, atI3, dW, dO, encB, Option.isNone, kd3]
        exact ite2 (fun h => ite2 (fun hl => hW _ ⟨some (c, j, o, some y), _, _, rfl, best_new hb h hl⟩) fun hl => hW _ ⟨some x, _, _, rfl, best_old hb (Bool.eq_false_iff.mpr hl)⟩) fun h => hW _ ⟨some x, _, _, rfl, best_skip hb h⟩
  · rintro ρ ⟨b, t3, t4, rfl, hb⟩
    refine hN _ ?_
    walk_at "rd"
    exact q b hb
theorem ok_law_first (T : Txt c K mg)  : Df3 P w K mg base 1 "_law_first" ["_law_waiting", "_law_turn"] sp_law_first := by
  obtain ⟨f, fd, F, hm⟩ := T.d_law_first
  have hb := F.binds (ps := ["_law_waiting", "_law_turn"]) fun _ _ _ _ _ _ us hl => by obtain ⟨_, _, rfl⟩ := arity2 hl; rfl
  refine ⟨fun ds Q Q' E E' hQ hE h => ?_, ⟨f, fd, fn_law_first T  F, hb, F.kp, hm⟩⟩
  obtain ⟨a, b, e, h⟩ := h; exact ⟨a, b, e, fun v y1 => hQ _ _ (h v y1)⟩
theorem sc_law_dealt : FnScope ["_law_turns", "_law_visits_here", "_law_waiting", "_law_row", "_law_turn", "_law_best"] ["_law_turns", "_law_visits_here"] (defScope s_law_dealt) := ⟨rfl, rfl, rfl, by decide +kernel, rfl, by decide +kernel, by decide +kernel⟩
set_option maxHeartbeats 4000000 in
theorem fn_law_dealt (T : Txt c K mg) (G_law_first : Df3 P w K mg base 1 "_law_first" ["_law_waiting", "_law_turn"] sp_law_first) {f : Addr} {fd : FuncData} (F : Fun K "_law_dealt" "_law_dealt" s_law_dealt f fd) : FnOk P w K mg base (CXR P w) 2 f fd ["_law_turns", "_law_visits_here"] (spL K sp_law_dealt) := by
  have S := sc_law_dealt
  refine fn3 F S (fun ds Q E h => ?_) (fun cdv A outer s H E E3 hE hr => ?_)
  · obtain ⟨_, _, rfl, _⟩ := h; rfl
  refine ⟨_, (ss_cons (s_own (i := 2) S.nd rfl (by first | exact Or.inl rfl | exact Or.inr rfl) (list3 rfl T.n_list bo_list (a_cons (n3 1) a_nil)))
    (ss_cons (s_own (i := 3) S.nd rfl (by first | exact Or.inl rfl | exact Or.inr rfl) (lst3_ok a_nil))
    (ss_cons (s_for PassesOwn.leaving rfl (it_range1 rfl T.n_range (a_cons (op3 add3_ok (n3 0) i3) a_nil)) (t_name (i := 4) S.nd rfl (by first | exact Or.inl rfl | exact Or.inr rfl)) (ss_cons (s_if (tcmp3 gt_ok (n3 4) i3 (nomark _)) (ss_cons (s_set (i := 5) S.nd rfl (by first | exact Or.inl rfl | exact Or.inr rfl) (thaw_tups 2 (df3 hE G_law_first (hr.mono (by decide)) rfl passR (a_cons (n3 2) (a_cons (n3 4) a_nil)))))
        (ss_cons (s_if (tcmp3 isN_ok (n3 5) non3 (nomark _)) (ss_one (s_ret non3)) ss_nil)
        (ss_cons (s_remove (i := 2) (hu65 hr) rfl (by first | exact Or.inl rfl | exact Or.inr (Or.inl rfl) | exact Or.inr (Or.inr rfl)) (at3 (n3 5) i3 (fun _ _ => rfl)))
        (ss_one (s_append (i := 3) rfl (by first | exact Or.inl rfl | exact Or.inr (Or.inl rfl) | exact Or.inr (Or.inr rfl)) (at3 (at3 (n3 5) i3 (fun _ _ => rfl)) i3 (fun _ _ => rfl))))))) ss_nil)
      (ss_one (s_if (thaw_test [2] (tcmp3 gt_ok (callB3 len_ok rfl T.n_len bo_len (a_cons (new3 (comp_ok ["_law_window"] ["_law_turn"] [4] rfl (compSc (osc := defScope s_law_dealt) (by decide +kernel)) rfl (it_list (n3 2)) (fun H0 s H fp cl => ⟨(t_name (i := 0) (show ((["_law_window"] : List PySem.Str) ++ (["_law_turn"] : List PySem.Str)).Nodup by decide) rfl (by first | exact Or.inl rfl | exact Or.inr rfl)), (pt_one (pw3 (and3_ok (tcmp3 notN_ok (at3 (n3 0) i3 (fun _ _ => rfl)) non3 (nomark _)) (and1_3 (tcmp3 le_ok (at3 (n3 0) i3 (fun _ _ => rfl)) (n3 1) (nomark _)))))), (n3 0)⟩))) a_nil)) i3 (nomark _))) (ss_one (s_ret non3)) ss_nil))))
    (ss_one (s_frz [3] (s_ret (n3 3))))))), fun ds Q h => ?_⟩
  obtain ⟨T, V, rfl, hT0, hT, hV, ok, q1, q2⟩ := h
  obtain ⟨n, rfl⟩ : ∃ n : Nat, T = (n : Int) := ⟨T.toNat, by omega⟩
  obtain ⟨w0, p0, s0⟩ := srt_ex (T := (n : Int)) ok.nd
  refine seq_step fun N hN => ?_
  walk_at "rd"
  refine hN _ ?_
  clear hN N
  generalize (List.map dW V).all scal3 = fb
  refine seq_step fun N hN => ?_
  walk_at "rd"
  refine hN _ ?_
  clear hN N
  refine seq_step fun N hN => ?_
  walk_at "rd"
  refine ⟨by omega, by omega, ?_⟩
  rw [show ((n : Int) + 1).toNat = n + 1 by omega]
  refine for_nums (fun m ρ => ∃ (w wait given : List Win) (t4 t5 : Option L3.Cl), ρ = [some (.sh true (.int (n : Int))), some (.sh false (.list (V.map dW))), some (.ow fb (w.map dW)), some (.ow true ((given.map (·.1)).map .int)), t4, t5] ∧ Dealt n V wait given ∧ w.Perm wait ∧ given.length = m - 1 ∧ (1 ≤ m → lateW wait given.length = false)) ?_ ?_ ⟨V, w0, [], none, none, rfl, Dealt.start p0 s0, p0.symm, rfl, fun h => absurd h (by omega)⟩
  · rintro m ρ hm ⟨w, wait, given, t4, t5, rfl, d, hp, hg, hl⟩ W hW
    simp only [gn3, List.set_cons_zero, List.set_cons_succ, scal3, Bool.or_true]
    refine seq_mid (fun ρ' => ∃ (w wait given : List Win) (t5 : Option L3.Cl), ρ' = [some (.sh true (.int (n : Int))), some (.sh false (.list (V.map dW))), some (.ow fb (w.map dW)), some (.ow true ((given.map (·.1)).map .int)), some (.sh true (.int (0 + (m : Int)))), t5] ∧ Dealt n V wait given ∧ w.Perm wait ∧ given.length = m) (fun N' hN' => ?_) ?_
    · by_cases h0 : m = 0
      · walk_at "rd"
        rw [if_neg (by omega)]
        exact hN' _ ⟨w, wait, given, t5, rfl, d, hp, by omega⟩
      walk_at "rd"
      rw [if_pos (by omega)]
      refine ⟨w, rfl, fun b hb => ?_⟩
      rw [show (0 + (m : Int)) = (given.length : Int) + 1 by omega] at hb
      cases b with
      | none =>
        refine ⟨rfl, ite2 (fun _ => ?_) fun h => absurd rfl h⟩
        have hn : placeW ((given.length : Int) + 1) wait = none := placeW_end fun i hi => hb wait[i] (hp.mem_iff.mpr (List.getElem_mem hi))
        exact q1 _ (.inl ⟨given.length + 1, by omega, by omega, d.lack hn, rfl⟩)
      | some v =>
        refine ⟨flat_encB v, ite2 (fun h => by cases (show false = true from h)) fun _ => ?_⟩
        obtain ⟨p, hpl, hpv⟩ := best_place ok (by omega) d hp hb
        obtain ⟨v', hv', d'⟩ := d.step (by omega) (hl (by omega)) hpl
        obtain rfl : v' = v := by rw [hpv] at hv'; cases hv'; rfl
        obtain ⟨j, hj, first⟩ := first_at hb.1
        refine ⟨dW v', rfl, (plain_dW v').shaped (by decide), (plain_dWs w).shaped (by decide), j, dW v', by rw [List.getElem?_map, hj]; rfl, by rw [dW_eqv]; exact decide_eq_true rfl, fun k dk hk hd => ?_, ?_⟩
        · rw [List.getElem?_map] at hd
          obtain ⟨u, hu, rfl⟩ := Option.map_eq_some_iff.mp hd
          rw [dW_eqv]
          exact decide_eq_false (first k u hk hu)
        have hpl := d.perm.length_eq
        rw [List.length_append] at hpl
        refine ⟨dW v', rfl, .int v'.1, rfl, Nat.lt_of_lt_of_le (show _ < 1000 by rw [List.length_map, List.length_map]; omega) (by decide), hN' _ ⟨w.eraseIdx j, wait.eraseIdx p, given ++ [v'], some (.sh false (encB (some v'))), ?_, d', ((perm_at hj).symm.trans (hp.trans (perm_at hpv))).cons_inv, by rw [List.length_append, List.length_singleton]; omega⟩⟩
        rw [erase_map, List.map_append, List.map_append]
        rfl
    rintro ρ ⟨w, wait, given, t5, rfl, d, hp, hg⟩
    have hwl : w.length ≤ V.length := by
      have h1 := hp.length_eq
      have h2 := d.perm.length_eq
      rw [List.length_append] at h2
      omega
    simp (config := { maxSteps := 2000000 }) only [seq3, next3, set3, own3, ret3, ifS3, tt3, o3, v3, atV, asS, asB, asD, optP, asT, asLd, asL, atO, consP, nilP, asId, asI, k3, nw3, add3, int3, int0, eq3, ne3, eqOk, eqv3, isN3, notN3, isNone, ix3, ixD, cons3, nil3, call3, cb3, len3, lenD, min23, all3, if3, and3, or3, not3, andV3, notV3, tup3, lst3, listN, catN, isi3', L2.isD, gn3, gtup3, gcons3, gnil3, app3, frzS, frz, frz1, for3, itL, rg1, rg2, comp3, true3, cst3, start3, shs, Cl.d, Cl.dat, Cl.f, scal3, Option.map_some, Option.map_none, Option.isSome_some, Option.isSome_none, Option.join_some, Option.join_none, List.all_cons, List.all_nil, Bool.and_true, Bool.true_and, Bool.and_self, Bool.or_false, Bool.false_or, Bool.or_true, Bool.true_or, List.map_cons, List.map_nil, List.length_cons, List.length_nil, Nat.reduceAdd, Nat.reduceSub, Nat.sub_self, List.replicate, List.cons_append, List.nil_append, List.append_nil, List.getElem?_cons_zero, List.getElem?_cons_succ, List.set_cons_zero, List.set_cons_succ, Option.some.injEq, Cl.sh.injEq, Cl.ow.injEq, PyData.int.injEq, PyData.bool.injEq, PyData.str.injEq, PyData.list.injEq, PyData.tuple.injEq, List.cons.injEq, reduceCtorEq, and_assoc, and_true, true_and, and_self, exists_eq_left, exists_eq_left', exists_eq', exists_eq_right, exists_eq_right', exists_and_left, exists_const, exists_false, false_and, and_false, or_false, false_or, or_true, true_or, decide_true, decide_false, decide_eq_true_eq, Bool.not_true, Bool.not_false, Bool.false_eq_true, Bool.true_eq_false, if_true, if_false, ite_true, ite_false, Bool.not_eq_true', decide_eq_false_iff_not, eq_self_iff_true, not_true_eq_false, not_false_eq_true, sz0, sz2, sz3, sz4, appPop3, thawT, itE, sort3, seqX, itE1, rmv3, ltT3, as3, thawL, callS3, callY3, yend3, ifX3, weakE, weak1, sp_law_cell_at, sp_law_of_clan, sp_law_drawn_at, sp_law_visits, sp_law_first, sp_law_dealt, sp_is_late, sp_place_of_opened, sp_start_of_crowd, sp_pressing, sp_deal, sp_law_whole, sp_law_told, sp_law, dI, atI0, atI1, atI2, atI3, List.length_map]
    refine ⟨sz (by omega), ?_⟩
    refine comp_keep dW dW (lateV (m : Int)) (fun ρ => ∃ x, ρ = [x, some (.sh true (.int (0 + (m : Int))))]) w ?_ _ _ _ _ ⟨none, rfl⟩ fun f2 => ?_
    · rintro v hv ρ fa acc K ⟨x, rfl⟩ k
      obtain ⟨c, j, o, l⟩ := v
      cases l with
      | none =>
        simp (config := { maxSteps := 2000000 }) only [seq3, next3, set3, own3, ret3, ifS3, tt3, o3, v3, atV, asS, asB, asD, optP, asT, asLd, asL, atO, consP, nilP, asId, asI, k3, nw3, add3, int3, int0, eq3, ne3, eqOk, eqv3, isN3, notN3, isNone, ix3, ixD, cons3, nil3, call3, cb3, len3, lenD, min23, all3, if3, and3, or3, not3, andV3, notV3, tup3, lst3, listN, catN, isi3', L2.isD, gn3, gtup3, gcons3, gnil3, app3, frzS, frz, frz1, for3, itL, rg1, rg2, comp3, true3, cst3, start3, shs, Cl.d, Cl.dat, Cl.f, scal3, Option.map_some, Option.map_none, Option.isSome_some, Option.isSome_none, Option.join_some, Option.join_none, List.all_cons, List.all_nil, Bool.and_true, Bool.true_and, Bool.and_self, Bool.or_false, Bool.false_or, Bool.or_true, Bool.true_or, List.map_cons, List.map_nil, List.length_cons, List.length_nil, Nat.reduceAdd, Nat.reduceSub, Nat.sub_self, List.replicate, List.cons_append, List.nil_append, List.append_nil, List.getElem?_cons_zero, List.getElem?_cons_succ, List.set_cons_zero, List.set_cons_succ, Option.some.injEq, Cl.sh.injEq, Cl.ow.injEq, PyData.int.injEq, PyData.bool.injEq, PyData.str.injEq, PyData.list.injEq, PyData.tuple.injEq, List.cons.injEq, reduceCtorEq, and_assoc, and_true, true_and, and_self, exists_eq_left, exists_eq_left', exists_eq', exists_eq_right, exists_eq_right', exists_and_left, exists_const, exists_false, false_and, and_false, or_false, false_or, or_true, true_or, decide_true, decide_false, decide_eq_true_eq, Bool.not_true, Bool.not_false, Bool.false_eq_true, Bool.true_eq_false, if_true, if_false, ite_true, ite_false, Bool.not_eq_true', decide_eq_false_iff_not, eq_self_iff_true, not_true_eq_false, not_false_eq_true, sz0, sz2, sz3, sz4, appPop3, thawT, itE, sort3, seqX, itE1, rmv3, ltT3, as3, thawL, callS3, callY3, yend3, ifX3, weakE, weak1, sp_law_cell_at, sp_law_of_clan, sp_law_drawn_at, sp_law_visits, sp_law_first, sp_law_dealt, sp_is_late, sp_place_of_opened, sp_start_of_crowd, sp_pressing, sp_deal, sp_law_whole, sp_law_told, sp_law, dI, atI0, atI1, atI2, atI3, dW, dO]
        exact k _ _ ⟨_, rfl⟩
      | some y =>
        have k : ∀ fa' ρ', (∃ x, ρ' = [x, some (Cl.sh true (PyData.int (0 + (m : Int))))]) → K fa' (if decide (y ≤ (m : Int)) = true then acc ++ [dW (c, j, o, some y)] else acc) ρ' := k
        simp (config := { maxSteps := 2000000 }) only [seq3, next3, set3, own3, ret3, ifS3, tt3, o3, v3, atV, asS, asB, asD, optP, asT, asLd, asL, atO, consP, nilP, asId, asI, k3, nw3, add3, int3, int0, eq3, ne3, eqOk, eqv3, isN3, notN3, isNone, ix3, ixD, cons3, nil3, call3, cb3, len3, lenD, min23, all3, if3, and3, or3, not3, andV3, notV3, tup3, lst3, listN, catN, isi3', L2.isD, gn3, gtup3, gcons3, gnil3, app3, frzS, frz, frz1, for3, itL, rg1, rg2, comp3, true3, cst3, start3, shs, Cl.d, Cl.dat, Cl.f, scal3, Option.map_some, Option.map_none, Option.isSome_some, Option.isSome_none, Option.join_some, Option.join_none, List.all_cons, List.all_nil, Bool.and_true, Bool.true_and, Bool.and_self, Bool.or_false, Bool.false_or, Bool.or_true, Bool.true_or, List.map_cons, List.map_nil, List.length_cons, List.length_nil, Nat.reduceAdd, Nat.reduceSub, Nat.sub_self, List.replicate, List.cons_append, List.nil_append, List.append_nil, List.getElem?_cons_zero, List.getElem?_cons_succ, List.set_cons_zero, List.set_cons_succ, Option.some.injEq, Cl.sh.injEq, Cl.ow.injEq, PyData.int.injEq, PyData.bool.injEq, PyData.str.injEq, PyData.list.injEq, PyData.tuple.injEq, List.cons.injEq, reduceCtorEq, and_assoc, and_true, true_and, and_self, exists_eq_left, exists_eq_left', exists_eq', exists_eq_right, exists_eq_right', exists_and_left, exists_const, exists_false, false_and, and_false, or_false, false_or, or_true, true_or, decide_true, decide_false, decide_eq_true_eq, Bool.not_true, Bool.not_false, Bool.false_eq_true, Bool.true_eq_false, if_true, if_false, ite_true, ite_false, Bool.not_eq_true', decide_eq_false_iff_not, eq_self_iff_true, not_true_eq_false, not_false_eq_true, sz0, sz2, sz3, sz4, appPop3, thawT, itE, sort3, seqX, itE1, rmv3, ltT3, as3, thawL, callS3, callY3, yend3, ifX3, weakE, weak1, sp_law_cell_at, sp_law_of_clan, sp_law_drawn_at, sp_law_visits, sp_law_first, sp_law_dealt, sp_is_late, sp_place_of_opened, sp_start_of_crowd, sp_pressing, sp_deal, sp_law_whole, sp_law_told, sp_law, dI, atI0, atI1, atI2, atI3, dW, dO]
        by_cases h : y ≤ (m : Int)
        · rw [if_pos (by omega)]
          rw [if_pos (decide_eq_true h)] at k
          exact k _ _ ⟨_, rfl⟩
        · rw [if_neg (by omega)]
          rw [if_neg (by rw [decide_eq_false h]; decide)] at k
          exact k _ _ ⟨_, rfl⟩
    rw [List.nil_append, List.length_map]
    by_cases h : 0 < (((w.filter (lateV m)).length : Nat) : Int)
    · rw [if_pos h]
      have hlt := late_some (t := (m : Int)) (by omega) d hp (by omega)
      have := d.crowd ok (by omega) (by rw [hg]; exact hlt)
      exact q1 _ (.inr ⟨_, _, this.1, by omega, this.2, rfl⟩)
    · rw [if_neg h]
      exact hW _ ⟨w, wait, given, _, _, rfl, d, hp, by omega, fun _ => by rw [hg]; exact late_none hp (by omega)⟩
  · rintro ρ ⟨w, wait, given, t4, t5, rfl, d, hp, hg, hl⟩
    refine hN _ ?_
    clear hN N
    walk_at "rd"
    have hg : given.length = n := hg
    have := q2 (given.map (·.1)) (by rw [List.length_map, hg]) (d.row ok (by rw [hg]) (hl (by omega))) ⟨wait, given, d, by rw [hg], rfl⟩
    exact this
theorem ok_law_dealt (T : Txt c K mg) (G_law_first : Df3 P w K mg base 1 "_law_first" ["_law_waiting", "_law_turn"] sp_law_first) : Df3 P w K mg base 2 "_law_dealt" ["_law_turns", "_law_visits_here"] sp_law_dealt := by
  obtain ⟨f, fd, F, hm⟩ := T.d_law_dealt
  have hb := F.binds (ps := ["_law_turns", "_law_visits_here"]) fun _ _ _ _ _ _ us hl => by obtain ⟨_, _, rfl⟩ := arity2 hl; rfl
  refine ⟨fun ds Q Q' E E' hQ hE h => ?_, ⟨f, fd, fn_law_dealt T G_law_first F, hb, F.kp, hm⟩⟩
  obtain ⟨a, b, e, x1, x2, x3, x4, h1, h2⟩ := h; exact ⟨a, b, e, x1, x2, x3, x4, fun d z => hQ _ _ (h1 d z), fun r y1 y2 y3 => hQ _ _ (h2 r y1 y2 y3)⟩
theorem sc_is_late : FnScope ["waiting", "gone"] ["waiting", "gone"] (defScope s_is_late) := ⟨rfl, rfl, rfl, by decide +kernel, rfl, by decide +kernel, by decide +kernel⟩
set_option maxHeartbeats 4000000 in
theorem fn_is_late (T : Txt c K mg)  {f : Addr} {fd : FuncData} (F : Fun K "is_late" "is_late" s_is_late f fd) : FnOk P w K mg base (CXR P w) 1 f fd ["waiting", "gone"] (spL K sp_is_late) := by
  have S := sc_is_late
  refine fn3 F S (fun ds Q E h => ?_) (fun cdv A outer s H E E3 hE hr => ?_)
  · obtain ⟨_, _, rfl, _⟩ := h; rfl
  refine ⟨_, (ss_one (s_ret (andV3_ok (cmp3 gt_ok (callB3 len_ok rfl T.n_len bo_len (a_cons (n3 0) a_nil)) i3 (nomark _)) (andV3_ok (cmp3 notN_ok (at3 (at3 (n3 0) i3 (fun _ _ => rfl)) i3 (fun _ _ => rfl)) non3 (nomark _)) (one3 (cmp3 le_ok (at3 (at3 (n3 0) i3 (fun _ _ => rfl)) i3 (fun _ _ => rfl)) (n3 1) (nomark _))))))), fun ds Q h => ?_⟩
  obtain ⟨w, g, rfl, q⟩ := h
  cases w with
  | nil => simp (config := { maxSteps := 2000000 }) only [seq3, next3, set3, own3, ret3, ifS3, tt3, o3, v3, atV, asS, asB, asD, optP, asT, asLd, asL, atO, consP, nilP, asId, asI, k3, nw3, add3, int3, int0, eq3, ne3, eqOk, eqv3, isN3, notN3, isNone, ix3, ixD, cons3, nil3, call3, cb3, len3, lenD, min23, all3, if3, and3, or3, not3, andV3, notV3, tup3, lst3, listN, catN, isi3', L2.isD, gn3, gtup3, gcons3, gnil3, app3, frzS, frz, frz1, for3, itL, rg1, rg2, comp3, true3, cst3, start3, shs, Cl.d, Cl.dat, Cl.f, scal3, Option.map_some, Option.map_none, Option.isSome_some, Option.isSome_none, Option.join_some, Option.join_none, List.all_cons, List.all_nil, Bool.and_true, Bool.true_and, Bool.and_self, Bool.or_false, Bool.false_or, Bool.or_true, Bool.true_or, List.map_cons, List.map_nil, List.length_cons, List.length_nil, Nat.reduceAdd, Nat.reduceSub, Nat.sub_self, List.replicate, List.cons_append, List.nil_append, List.append_nil, List.getElem?_cons_zero, List.getElem?_cons_succ, List.set_cons_zero, List.set_cons_succ, Option.some.injEq, Cl.sh.injEq, Cl.ow.injEq, PyData.int.injEq, PyData.bool.injEq, PyData.str.injEq, PyData.list.injEq, PyData.tuple.injEq, List.cons.injEq, reduceCtorEq, and_assoc, and_true, true_and, and_self, exists_eq_left, exists_eq_left', exists_eq', exists_eq_right, exists_eq_right', exists_and_left, exists_const, exists_false, false_and, and_false, or_false, false_or, or_true, true_or, decide_true, decide_false, decide_eq_true_eq, Bool.not_true, Bool.not_false, Bool.false_eq_true, Bool.true_eq_false, if_true, if_false, ite_true, ite_false, Bool.not_eq_true', decide_eq_false_iff_not, eq_self_iff_true, not_true_eq_false, not_false_eq_true, sz0, sz2, sz3, sz4, appPop3, thawT, itE, sort3, seqX, itE1, rmv3, ltT3, as3, thawL, callS3, callY3, yend3, ifX3, weakE, weak1, sp_law_cell_at, sp_law_of_clan, sp_law_drawn_at, sp_law_visits, sp_law_first, sp_law_dealt, sp_is_late, sp_place_of_opened, sp_start_of_crowd, sp_pressing, sp_deal, sp_law_whole, sp_law_told, sp_law, dI, atI0, atI1, atI2, atI3, List.map_nil]; exact q
  | cons v r =>
    obtain ⟨c, j, o, l⟩ := v
    have hp : (0 < ((r.length + 1 : Nat) : Int)) = True := eq_true (by omega)
    cases l with
    | none => simp (config := { maxSteps := 2000000 }) only [seq3, next3, set3, own3, ret3, ifS3, tt3, o3, v3, atV, asS, asB, asD, optP, asT, asLd, asL, atO, consP, nilP, asId, asI, k3, nw3, add3, int3, int0, eq3, ne3, eqOk, eqv3, isN3, notN3, isNone, ix3, ixD, cons3, nil3, call3, cb3, len3, lenD, min23, all3, if3, and3, or3, not3, andV3, notV3, tup3, lst3, listN, catN, isi3', L2.isD, gn3, gtup3, gcons3, gnil3, app3, frzS, frz, frz1, for3, itL, rg1, rg2, comp3, true3, cst3, start3, shs, Cl.d, Cl.dat, Cl.f, scal3, Option.map_some, Option.map_none, Option.isSome_some, Option.isSome_none, Option.join_some, Option.join_none, List.all_cons, List.all_nil, Bool.and_true, Bool.true_and, Bool.and_self, Bool.or_false, Bool.false_or, Bool.or_true, Bool.true_or, List.map_cons, List.map_nil, List.length_cons, List.length_nil, Nat.reduceAdd, Nat.reduceSub, Nat.sub_self, List.replicate, List.cons_append, List.nil_append, List.append_nil, List.getElem?_cons_zero, List.getElem?_cons_succ, List.set_cons_zero, List.set_cons_succ, Option.some.injEq, Cl.sh.injEq, Cl.ow.injEq, PyData.int.injEq, PyData.bool.injEq, PyData.str.injEq, PyData.list.injEq, PyData.tuple.injEq, List.cons.injEq, reduceCtorEq, and_assoc, and_true, true_and, and_self, exists_eq_left, exists_eq_left', exists_eq', exists_eq_right, exists_eq_right', exists_and_left, exists_const, exists_false, false_and, and_false, or_false, false_or, or_true, true_or, decide_true, decide_false, decide_eq_true_eq, Bool.not_true, Bool.not_false, Bool.false_eq_true, Bool.true_eq_false, if_true, if_false, ite_true, ite_false, Bool.not_eq_true', decide_eq_false_iff_not, eq_self_iff_true, not_true_eq_false, not_false_eq_true, sz0, sz2, sz3, sz4, appPop3, thawT, itE, sort3, seqX, itE1, rmv3, ltT3, as3, thawL, callS3, callY3, yend3, ifX3, weakE, weak1, sp_law_cell_at, sp_law_of_clan, sp_law_drawn_at, sp_law_visits, sp_law_first, sp_law_dealt, sp_is_late, sp_place_of_opened, sp_start_of_crowd, sp_pressing, sp_deal, sp_law_whole, sp_law_told, sp_law, dI, atI0, atI1, atI2, atI3, List.map_cons, List.length_map, dW, dO, hp]; exact q
    | some x => simp (config := { maxSteps := 2000000 }) only [seq3, next3, set3, own3, ret3, ifS3, tt3, o3, v3, atV, asS, asB, asD, optP, asT, asLd, asL, atO, consP, nilP, asId, asI, k3, nw3, add3, int3, int0, eq3, ne3, eqOk, eqv3, isN3, notN3, isNone, ix3, ixD, cons3, nil3, call3, cb3, len3, lenD, min23, all3, if3, and3, or3, not3, andV3, notV3, tup3, lst3, listN, catN, isi3', L2.isD, gn3, gtup3, gcons3, gnil3, app3, frzS, frz, frz1, for3, itL, rg1, rg2, comp3, true3, cst3, start3, shs, Cl.d, Cl.dat, Cl.f, scal3, Option.map_some, Option.map_none, Option.isSome_some, Option.isSome_none, Option.join_some, Option.join_none, List.all_cons, List.all_nil, Bool.and_true, Bool.true_and, Bool.and_self, Bool.or_false, Bool.false_or, Bool.or_true, Bool.true_or, List.map_cons, List.map_nil, List.length_cons, List.length_nil, Nat.reduceAdd, Nat.reduceSub, Nat.sub_self, List.replicate, List.cons_append, List.nil_append, List.append_nil, List.getElem?_cons_zero, List.getElem?_cons_succ, List.set_cons_zero, List.set_cons_succ, Option.some.injEq, Cl.sh.injEq, Cl.ow.injEq, PyData.int.injEq, PyData.bool.injEq, PyData.str.injEq, PyData.list.injEq, PyData.tuple.injEq, List.cons.injEq, reduceCtorEq, and_assoc, and_true, true_and, and_self, exists_eq_left, exists_eq_left', exists_eq', exists_eq_right, exists_eq_right', exists_and_left, exists_const, exists_false, false_and, and_false, or_false, false_or, or_true, true_or, decide_true, decide_false, decide_eq_true_eq, Bool.not_true, Bool.not_false, Bool.false_eq_true, Bool.true_eq_false, if_true, if_false, ite_true, ite_false, Bool.not_eq_true', decide_eq_false_iff_not, eq_self_iff_true, not_true_eq_false, not_false_eq_true, sz0, sz2, sz3, sz4, appPop3, thawT, itE, sort3, seqX, itE1, rmv3, ltT3, as3, thawL, callS3, callY3, yend3, ifX3, weakE, weak1, sp_law_cell_at, sp_law_of_clan, sp_law_drawn_at, sp_law_visits, sp_law_first, sp_law_dealt, sp_is_late, sp_place_of_opened, sp_start_of_crowd, sp_pressing, sp_deal, sp_law_whole, sp_law_told, sp_law, dI, atI0, atI1, atI2, atI3, List.map_cons, List.length_map, dW, dO, hp]; exact q
theorem ok_is_late (T : Txt c K mg)  : Df3 P w K mg base 1 "is_late" ["waiting", "gone"] sp_is_late := by
  obtain ⟨f, fd, F, hm⟩ := T.d_is_late
  have hb := F.binds (ps := ["waiting", "gone"]) fun _ _ _ _ _ _ us hl => by obtain ⟨_, _, rfl⟩ := arity2 hl; rfl
  refine ⟨fun ds Q Q' E E' hQ hE h => ?_, ⟨f, fd, fn_is_late T  F, hb, F.kp, hm⟩⟩
  obtain ⟨a, b, e, h⟩ := h; exact ⟨a, b, e, hQ _ _ h⟩
theorem sc_place_of_opened : FnScope ["waiting", "turn", "place", "visit"] ["waiting", "turn"] (defScope s_place_of_opened) := ⟨rfl, rfl, rfl, by decide +kernel, rfl, by decide +kernel, by decide +kernel⟩
set_option maxHeartbeats 4000000 in
theorem fn_place_of_opened (T : Txt c K mg)  {f : Addr} {fd : FuncData} (F : Fun K "place_of_opened" "place_of_opened" s_place_of_opened f fd) : FnOk P w K mg base (CXR P w) 1 f fd ["waiting", "turn"] (spL K sp_place_of_opened) := by
  have S := sc_place_of_opened
  refine fn3 F S (fun ds Q E h => ?_) (fun cdv A outer s H E E3 hE hr => ?_)
  · obtain ⟨_, _, rfl, _⟩ := h; rfl
  refine ⟨_, (ss_cons (s_for PassesOwn.leaving rfl (it_enumerate rfl T.n_enumerate (a_cons (n3 0) a_nil)) (t_tup (n := 2) rfl (ts_cons (t_name (i := 2) S.nd rfl (by first | exact Or.inl rfl | exact Or.inr rfl)) (ts_cons (t_name (i := 3) S.nd rfl (by first | exact Or.inl rfl | exact Or.inr rfl)) ts_nil))) (ss_one (s_if (tcmp3 le_ok (at3 (n3 3) i3 (fun _ _ => rfl)) (n3 1) (nomark _)) (ss_one (s_ret (n3 2))) ss_nil)))
    (ss_one (s_ret non3))), fun ds Q h => ?_⟩
  obtain ⟨w, t, rfl, q⟩ := h
  refine seq_step fun N hN => ?_
  walk_at "rd"
  unfold enumD
  rw [List.length_map]
  refine for_enum (fun k ρ => ∃ t2 t3, ρ = [some (.sh false (.list (w.map dW))), some (.sh true (.int t)), t2, t3] ∧ ∀ i (hi : i < w.length), i < k → t < w[i].2.2.1) ?_ ?_ ⟨none, none, rfl, fun i hi h => absurd h (by omega)⟩
  · rintro k ρ hk ⟨t2, t3, rfl, hb⟩ W hW
    have e : (w.map dW).getD k .none = dW w[k] := by rw [List.getD_eq_getElem?_getD, List.getElem?_map, List.getElem?_eq_getElem hk]; rfl
    rw [e]
    refine ⟨rfl, ?_⟩
    dsimp only [gcons3, gnil3, gn3, consP, nilP]
    show ifS3 _ _ _ _ [some (.sh false (.list (w.map dW))), some (.sh true (.int t)), some (.sh true (.int k)), some (.sh false (dW w[k]))]
    simp (config := { maxSteps := 2000000 }) only [seq3, next3, set3, own3, ret3, ifS3, tt3, o3, v3, atV, asS, asB, asD, optP, asT, asLd, asL, atO, consP, nilP, asId, asI, k3, nw3, add3, int3, int0, eq3, ne3, eqOk, eqv3, isN3, notN3, isNone, ix3, ixD, cons3, nil3, call3, cb3, len3, lenD, min23, all3, if3, and3, or3, not3, andV3, notV3, tup3, lst3, listN, catN, isi3', L2.isD, gn3, gtup3, gcons3, gnil3, app3, frzS, frz, frz1, for3, itL, rg1, rg2, comp3, true3, cst3, start3, shs, Cl.d, Cl.dat, Cl.f, scal3, Option.map_some, Option.map_none, Option.isSome_some, Option.isSome_none, Option.join_some, Option.join_none, List.all_cons, List.all_nil, Bool.and_true, Bool.true_and, Bool.and_self, Bool.or_false, Bool.false_or, Bool.or_true, Bool.true_or, List.map_cons, List.map_nil, List.length_cons, List.length_nil, Nat.reduceAdd, Nat.reduceSub, Nat.sub_self, List.replicate, List.cons_append, List.nil_append, List.append_nil, List.getElem?_cons_zero, List.getElem?_cons_succ, List.set_cons_zero, List.set_cons_succ, Option.some.injEq, Cl.sh.injEq, Cl.ow.injEq, PyData.int.injEq, PyData.bool.injEq, PyData.str.injEq, PyData.list.injEq, PyData.tuple.injEq, List.cons.injEq, reduceCtorEq, and_assoc, and_true, true_and, and_self, exists_eq_left, exists_eq_left', exists_eq', exists_eq_right, exists_eq_right', exists_and_left, exists_const, exists_false, false_and, and_false, or_false, false_or, or_true, true_or, decide_true, decide_false, decide_eq_true_eq, Bool.not_true, Bool.not_false, Bool.false_eq_true, Bool.true_eq_false, if_true, if_false, ite_true, ite_false, Bool.not_eq_true', decide_eq_false_iff_not, eq_self_iff_true, not_true_eq_false, not_false_eq_true, sz0, sz2, sz3, sz4, appPop3, thawT, itE, sort3, seqX, itE1, rmv3, ltT3, as3, thawL, callS3, callY3, yend3, ifX3, weakE, weak1, sp_law_cell_at, sp_law_of_clan, sp_law_drawn_at, sp_law_visits, sp_law_first, sp_law_dealt, sp_is_late, sp_place_of_opened, sp_start_of_crowd, sp_pressing, sp_deal, sp_law_whole, sp_law_told, sp_law, dI, atI0, atI1, atI2, atI3, dW]
    by_cases ho : w[k].2.2.1 ≤ t
    · rw [if_pos ho]
      rw [placeW_at hk hb ho] at q
      exact q
    · rw [if_neg ho]
      refine hW _ ⟨_, _, rfl, fun i hi hik => ?_⟩
      by_cases hik' : i < k
      · exact hb i hi hik'
      · have : i = k := by omega
        subst this; omega
  · rintro ρ ⟨t2, t3, rfl, hb⟩
    refine hN _ ?_
    walk_at "rd"
    rw [placeW_end fun i hi => hb i hi hi] at q
    exact q
theorem ok_place_of_opened (T : Txt c K mg)  : Df3 P w K mg base 1 "place_of_opened" ["waiting", "turn"] sp_place_of_opened := by
  obtain ⟨f, fd, F, hm⟩ := T.d_place_of_opened
  have hb := F.binds (ps := ["waiting", "turn"]) fun _ _ _ _ _ _ us hl => by obtain ⟨_, _, rfl⟩ := arity2 hl; rfl
  refine ⟨fun ds Q Q' E E' hQ hE h => ?_, ⟨f, fd, fn_place_of_opened T  F, hb, F.kp, hm⟩⟩
  obtain ⟨a, b, e, h⟩ := h; exact ⟨a, b, e, hQ _ _ h⟩
theorem sc_start_of_crowd : FnScope ["given", "start", "turn", "visit"] ["given"] (defScope s_start_of_crowd) := ⟨rfl, rfl, rfl, by decide +kernel, rfl, by decide +kernel, by decide +kernel⟩
set_option maxHeartbeats 4000000 in
theorem fn_start_of_crowd (T : Txt c K mg)  {f : Addr} {fd : FuncData} (F : Fun K "start_of_crowd" "start_of_crowd" s_start_of_crowd f fd) : FnOk P w K mg base (CXR P w) 1 f fd ["given"] (spL K sp_start_of_crowd) := by
  have S := sc_start_of_crowd
  refine fn3 F S (fun ds Q E h => ?_) (fun cdv A outer s H E E3 hE hr => ?_)
  · obtain ⟨_, rfl, _⟩ := h; rfl
  refine ⟨_, (ss_cons (s_set (i := 1) S.nd rfl (by first | exact Or.inl rfl | exact Or.inr rfl) i3)
    (ss_cons (s_for PassesOwn.leaving rfl (it_enumerate1 rfl T.n_enumerate (a_cons (n3 0) a_nil)) (t_tup (n := 2) rfl (ts_cons (t_name (i := 2) S.nd rfl (by first | exact Or.inl rfl | exact Or.inr rfl)) (ts_cons (t_name (i := 3) S.nd rfl (by first | exact Or.inl rfl | exact Or.inr rfl)) ts_nil))) (ss_one (s_if (pw3 (or3_ok (tcmp3 isN_ok (at3 (n3 3) i3 (fun _ _ => rfl)) non3 (nomark _)) (or1_3 (tcmp3 gt_ok (at3 (n3 3) i3 (fun _ _ => rfl)) (callB3 len_ok rfl T.n_len bo_len (a_cons (n3 0) a_nil)) (nomark _))))) (ss_one (s_set (i := 1) S.nd rfl (by first | exact Or.inl rfl | exact Or.inr rfl) (op3 add3_ok (n3 2) i3))) ss_nil)))
    (ss_one (s_ret (n3 1))))), fun ds Q h => ?_⟩
  obtain ⟨g, rfl, q⟩ := h
  refine seq_step fun N hN => ?_
  walk_at "rd"
  refine hN _ ?_
  clear hN N
  refine seq_step fun N hN => ?_
  walk_at "rd"
  unfold enumD1
  rw [List.length_map]
  refine for_enum (fun k ρ => ∃ a t2 t3, ρ = [some (.sh false (.list (g.map dW))), some (.sh true (.int a)), t2, t3] ∧ startW g.length (g.drop k) ((k : Int) + 1) a = startW g.length g 1 1) ?_ ?_ ⟨1, none, none, rfl, rfl⟩
  · rintro k ρ hk ⟨a, t2, t3, rfl, hs⟩ W hW
    have e : (g.map dW).getD k .none = dW g[k] := by rw [List.getD_eq_getElem?_getD, List.getElem?_map, List.getElem?_eq_getElem hk]; rfl
    rw [e]
    rw [List.drop_eq_getElem_cons hk] at hs
    have hc : ((k + 1 : Nat) : Int) = (k : Int) + 1 := by omega
    rw [hc] at hW ⊢
    refine ⟨rfl, ?_⟩
    dsimp only [gcons3, gnil3, gn3, consP, nilP]
    show ifS3 _ _ _ _ [some (.sh false (.list (g.map dW))), some (.sh true (.int a)), some (.sh true (.int ((k : Int) + 1))), some (.sh false (dW g[k]))]
    generalize g[k] = v at hs ⊢
    obtain ⟨c, j, o, l⟩ := v
    cases l with
    | none =>
      simp (config := { maxSteps := 2000000 }) only [seq3, next3, set3, own3, ret3, ifS3, tt3, o3, v3, atV, asS, asB, asD, optP, asT, asLd, asL, atO, consP, nilP, asId, asI, k3, nw3, add3, int3, int0, eq3, ne3, eqOk, eqv3, isN3, notN3, isNone, ix3, ixD, cons3, nil3, call3, cb3, len3, lenD, min23, all3, if3, and3, or3, not3, andV3, notV3, tup3, lst3, listN, catN, isi3', L2.isD, gn3, gtup3, gcons3, gnil3, app3, frzS, frz, frz1, for3, itL, rg1, rg2, comp3, true3, cst3, start3, shs, Cl.d, Cl.dat, Cl.f, scal3, Option.map_some, Option.map_none, Option.isSome_some, Option.isSome_none, Option.join_some, Option.join_none, List.all_cons, List.all_nil, Bool.and_true, Bool.true_and, Bool.and_self, Bool.or_false, Bool.false_or, Bool.or_true, Bool.true_or, List.map_cons, List.map_nil, List.length_cons, List.length_nil, Nat.reduceAdd, Nat.reduceSub, Nat.sub_self, List.replicate, List.cons_append, List.nil_append, List.append_nil, List.getElem?_cons_zero, List.getElem?_cons_succ, List.set_cons_zero, List.set_cons_succ, Option.some.injEq, Cl.sh.injEq, Cl.ow.injEq, PyData.int.injEq, PyData.bool.injEq, PyData.str.injEq, PyData.list.injEq, PyData.tuple.injEq, List.cons.injEq, reduceCtorEq, and_assoc, and_true, true_and, and_self, exists_eq_left, exists_eq_left', exists_eq', exists_eq_right, exists_eq_right', exists_and_left, exists_const, exists_false, false_and, and_false, or_false, false_or, or_true, true_or, decide_true, decide_false, decide_eq_true_eq, Bool.not_true, Bool.not_false, Bool.false_eq_true, Bool.true_eq_false, if_true, if_false, ite_true, ite_false, Bool.not_eq_true', decide_eq_false_iff_not, eq_self_iff_true, not_true_eq_false, not_false_eq_true, sz0, sz2, sz3, sz4, appPop3, thawT, itE, sort3, seqX, itE1, rmv3, ltT3, as3, thawL, callS3, callY3, yend3, ifX3, weakE, weak1, sp_law_cell_at, sp_law_of_clan, sp_law_drawn_at, sp_law_visits, sp_law_first, sp_law_dealt, sp_is_late, sp_place_of_opened, sp_start_of_crowd, sp_pressing, sp_deal, sp_law_whole, sp_law_told, sp_law, dI, atI0, atI1, atI2, atI3, dW, dO]
      exact hW _ ⟨_, _, _, rfl, hs⟩
    | some x =>
      have hs : startW g.length (g.drop (k + 1)) ((k : Int) + 1 + 1) (if (g.length : Int) < x then (k : Int) + 1 + 1 else a) = startW g.length g 1 1 := hs
      simp (config := { maxSteps := 2000000 }) only [seq3, next3, set3, own3, ret3, ifS3, tt3, o3, v3, atV, asS, asB, asD, optP, asT, asLd, asL, atO, consP, nilP, asId, asI, k3, nw3, add3, int3, int0, eq3, ne3, eqOk, eqv3, isN3, notN3, isNone, ix3, ixD, cons3, nil3, call3, cb3, len3, lenD, min23, all3, if3, and3, or3, not3, andV3, notV3, tup3, lst3, listN, catN, isi3', L2.isD, gn3, gtup3, gcons3, gnil3, app3, frzS, frz, frz1, for3, itL, rg1, rg2, comp3, true3, cst3, start3, shs, Cl.d, Cl.dat, Cl.f, scal3, Option.map_some, Option.map_none, Option.isSome_some, Option.isSome_none, Option.join_some, Option.join_none, List.all_cons, List.all_nil, Bool.and_true, Bool.true_and, Bool.and_self, Bool.or_false, Bool.false_or, Bool.or_true, Bool.true_or, List.map_cons, List.map_nil, List.length_cons, List.length_nil, Nat.reduceAdd, Nat.reduceSub, Nat.sub_self, List.replicate, List.cons_append, List.nil_append, List.append_nil, List.getElem?_cons_zero, List.getElem?_cons_succ, List.set_cons_zero, List.set_cons_succ, Option.some.injEq, Cl.sh.injEq, Cl.ow.injEq, PyData.int.injEq, PyData.bool.injEq, PyData.str.injEq, PyData.list.injEq, PyData.tuple.injEq, List.cons.injEq, reduceCtorEq, and_assoc, and_true, true_and, and_self, exists_eq_left, exists_eq_left', exists_eq', exists_eq_right, exists_eq_right', exists_and_left, exists_const, exists_false, false_and, and_false, or_false, false_or, or_true, true_or, decide_true, decide_false, decide_eq_true_eq, Bool.not_true, Bool.not_false, Bool.false_eq_true, Bool.true_eq_false, if_true, if_false, ite_true, ite_false, Bool.not_eq_true', decide_eq_false_iff_not, eq_self_iff_true, not_true_eq_false, not_false_eq_true, sz0, sz2, sz3, sz4, appPop3, thawT, itE, sort3, seqX, itE1, rmv3, ltT3, as3, thawL, callS3, callY3, yend3, ifX3, weakE, weak1, sp_law_cell_at, sp_law_of_clan, sp_law_drawn_at, sp_law_visits, sp_law_first, sp_law_dealt, sp_is_late, sp_place_of_opened, sp_start_of_crowd, sp_pressing, sp_deal, sp_law_whole, sp_law_told, sp_law, dI, atI0, atI1, atI2, atI3, dW, dO, List.length_map]
      by_cases hx : (g.length : Int) < x
      · rw [if_pos hx] at hs ⊢
        exact hW _ ⟨_, _, _, rfl, hs⟩
      · rw [if_neg hx] at hs ⊢
        exact hW _ ⟨_, _, _, rfl, hs⟩
  · rintro ρ ⟨a, t2, t3, rfl, hs⟩
    refine hN _ ?_
    walk_at "rd"
    rw [List.drop_length] at hs
    have hs : a = startW g.length g 1 1 := hs
    rw [hs]
    exact q
theorem ok_start_of_crowd (T : Txt c K mg)  : Df3 P w K mg base 1 "start_of_crowd" ["given"] sp_start_of_crowd := by
  obtain ⟨f, fd, F, hm⟩ := T.d_start_of_crowd
  have hb := F.binds (ps := ["given"]) fun _ _ _ _ _ _ us hl => by obtain ⟨_, rfl⟩ := arity1 hl; rfl
  refine ⟨fun ds Q Q' E E' hQ hE h => ?_, ⟨f, fd, fn_start_of_crowd T  F, hb, F.kp, hm⟩⟩
  obtain ⟨a, e, h⟩ := h; exact ⟨a, e, hQ _ _ h⟩
theorem sc_pressing : FnScope ["visit", "turns", "last"] ["visit", "turns"] (defScope s_pressing) := ⟨rfl, rfl, rfl, by decide +kernel, rfl, by decide +kernel, by decide +kernel⟩
set_option maxHeartbeats 4000000 in
theorem fn_pressing (T : Txt c K mg)  {f : Addr} {fd : FuncData} (F : Fun K "pressing" "pressing" s_pressing f fd) : FnOk P w K mg base (CXR P w) 1 f fd ["visit", "turns"] (spL K sp_pressing) := by
  have S := sc_pressing
  refine fn3 F S (fun ds Q E h => ?_) (fun cdv A outer s H E E3 hE hr => ?_)
  · obtain ⟨_, _, rfl, _⟩ := h; rfl
  refine ⟨_, (ss_cons (s_set (i := 2) S.nd rfl (by first | exact Or.inl rfl | exact Or.inr rfl) (if3_ok (tcmp3 isN_ok (at3 (n3 0) i3 (fun _ _ => rfl)) non3 (nomark _)) (op3 add3_ok (n3 1) i3) (at3 (n3 0) i3 (fun _ _ => rfl))))
    (ss_one (s_ret (tup3_ok (a_cons (n3 2) (a_cons (at3 (n3 0) i3 (fun _ _ => rfl)) (a_cons (at3 (n3 0) i3 (fun _ _ => rfl)) a_nil))))))), fun ds Q h => ?_⟩
  obtain ⟨⟨c, j, o, l⟩, T, rfl, q⟩ := h
  cases l with
  | none => simp (config := { maxSteps := 2000000 }) only [seq3, next3, set3, own3, ret3, ifS3, tt3, o3, v3, atV, asS, asB, asD, optP, asT, asLd, asL, atO, consP, nilP, asId, asI, k3, nw3, add3, int3, int0, eq3, ne3, eqOk, eqv3, isN3, notN3, isNone, ix3, ixD, cons3, nil3, call3, cb3, len3, lenD, min23, all3, if3, and3, or3, not3, andV3, notV3, tup3, lst3, listN, catN, isi3', L2.isD, gn3, gtup3, gcons3, gnil3, app3, frzS, frz, frz1, for3, itL, rg1, rg2, comp3, true3, cst3, start3, shs, Cl.d, Cl.dat, Cl.f, scal3, Option.map_some, Option.map_none, Option.isSome_some, Option.isSome_none, Option.join_some, Option.join_none, List.all_cons, List.all_nil, Bool.and_true, Bool.true_and, Bool.and_self, Bool.or_false, Bool.false_or, Bool.or_true, Bool.true_or, List.map_cons, List.map_nil, List.length_cons, List.length_nil, Nat.reduceAdd, Nat.reduceSub, Nat.sub_self, List.replicate, List.cons_append, List.nil_append, List.append_nil, List.getElem?_cons_zero, List.getElem?_cons_succ, List.set_cons_zero, List.set_cons_succ, Option.some.injEq, Cl.sh.injEq, Cl.ow.injEq, PyData.int.injEq, PyData.bool.injEq, PyData.str.injEq, PyData.list.injEq, PyData.tuple.injEq, List.cons.injEq, reduceCtorEq, and_assoc, and_true, true_and, and_self, exists_eq_left, exists_eq_left', exists_eq', exists_eq_right, exists_eq_right', exists_and_left, exists_const, exists_false, false_and, and_false, or_false, false_or, or_true, true_or, decide_true, decide_false, decide_eq_true_eq, Bool.not_true, Bool.not_false, Bool.false_eq_true, Bool.true_eq_false, if_true, if_false, ite_true, ite_false, Bool.not_eq_true', decide_eq_false_iff_not, eq_self_iff_true, not_true_eq_false, not_false_eq_true, sz0, sz2, sz3, sz4, appPop3, thawT, itE, sort3, seqX, itE1, rmv3, ltT3, as3, thawL, callS3, callY3, yend3, ifX3, weakE, weak1, sp_law_cell_at, sp_law_of_clan, sp_law_drawn_at, sp_law_visits, sp_law_first, sp_law_dealt, sp_is_late, sp_place_of_opened, sp_start_of_crowd, sp_pressing, sp_deal, sp_law_whole, sp_law_told, sp_law, dI, atI0, atI1, atI2, atI3, dW, dO]; exact q
  | some x => simp (config := { maxSteps := 2000000 }) only [seq3, next3, set3, own3, ret3, ifS3, tt3, o3, v3, atV, asS, asB, asD, optP, asT, asLd, asL, atO, consP, nilP, asId, asI, k3, nw3, add3, int3, int0, eq3, ne3, eqOk, eqv3, isN3, notN3, isNone, ix3, ixD, cons3, nil3, call3, cb3, len3, lenD, min23, all3, if3, and3, or3, not3, andV3, notV3, tup3, lst3, listN, catN, isi3', L2.isD, gn3, gtup3, gcons3, gnil3, app3, frzS, frz, frz1, for3, itL, rg1, rg2, comp3, true3, cst3, start3, shs, Cl.d, Cl.dat, Cl.f, scal3, Option.map_some, Option.map_none, Option.isSome_some, Option.isSome_none, Option.join_some, Option.join_none, List.all_cons, List.all_nil, Bool.and_true, Bool.true_and, Bool.and_self, Bool.or_false, Bool.false_or, Bool.or_true, Bool.true_or, List.map_cons, List.map_nil, List.length_cons, List.length_nil, Nat.reduceAdd, Nat.reduceSub, Nat.sub_self, List.replicate, List.cons_append, List.nil_append, List.append_nil, List.getElem?_cons_zero, List.getElem?_cons_succ, List.set_cons_zero, List.set_cons_succ, Option.some.injEq, Cl.sh.injEq, Cl.ow.injEq, PyData.int.injEq, PyData.bool.injEq, PyData.str.injEq, PyData.list.injEq, PyData.tuple.injEq, List.cons.injEq, reduceCtorEq, and_assoc, and_true, true_and, and_self, exists_eq_left, exists_eq_left', exists_eq', exists_eq_right, exists_eq_right', exists_and_left, exists_const, exists_false, false_and, and_false, or_false, false_or, or_true, true_or, decide_true, decide_false, decide_eq_true_eq, Bool.not_true, Bool.not_false, Bool.false_eq_true, Bool.true_eq_false, if_true, if_false, ite_true, ite_false, Bool.not_eq_true', decide_eq_false_iff_not, eq_self_iff_true, not_true_eq_false, not_false_eq_true, sz0, sz2, sz3, sz4, appPop3, thawT, itE, sort3, seqX, itE1, rmv3, ltT3, as3, thawL, callS3, callY3, yend3, ifX3, weakE, weak1, sp_law_cell_at, sp_law_of_clan, sp_law_drawn_at, sp_law_visits, sp_law_first, sp_law_dealt, sp_is_late, sp_place_of_opened, sp_start_of_crowd, sp_pressing, sp_deal, sp_law_whole, sp_law_told, sp_law, dI, atI0, atI1, atI2, atI3, dW, dO]; exact q
theorem ok_pressing (T : Txt c K mg)  : Df3 P w K mg base 1 "pressing" ["visit", "turns"] sp_pressing := by
  obtain ⟨f, fd, F, hm⟩ := T.d_pressing
  have hb := F.binds (ps := ["visit", "turns"]) fun _ _ _ _ _ _ us hl => by obtain ⟨_, _, rfl⟩ := arity2 hl; rfl
  refine ⟨fun ds Q Q' E E' hQ hE h => ?_, ⟨f, fd, fn_pressing T  F, hb, F.kp, hm⟩⟩
  obtain ⟨a, b, e, h⟩ := h; exact ⟨a, b, e, hQ _ _ h⟩
theorem sc_deal : FnScope ["turns", "windows", "waiting", "given", "place"] ["turns", "windows"] (defScope s_deal) := ⟨rfl, rfl, rfl, by decide +kernel, rfl, by decide +kernel, by decide +kernel⟩
set_option maxHeartbeats 4000000 in
theorem fn_deal (b : Bool) (T : Txt c K mg) (hB : BMod mg base) (kb : K.In base) (G_is_late : Df3 P w K mg base 1 "is_late" ["waiting", "gone"] sp_is_late) (G_place_of_opened : Df3 P w K mg base 1 "place_of_opened" ["waiting", "turn"] sp_place_of_opened) (G_start_of_crowd : Df3 P w K mg base 1 "start_of_crowd" ["given"] sp_start_of_crowd) (G_pressing : Df3 P w K mg base 1 "pressing" ["visit", "turns"] sp_pressing) {f : Addr} {fd : FuncData} (F : Fun K "deal" "deal" s_deal f fd) (hcd : fd.code = .ref c.c0) : FnOk P w K mg base (CXR P w) 5 f fd ["turns", "windows"] (spXS b K c.tb lamP lamQ sp_deal) := by
  have S := sc_deal
  have hC := T.hdC base kb
  refine fnXS (cv := fun v => v = .ref c.c0) F hcd S (fun ds Q E h => ?_) (fun cdv A outer s H E hcv hr => ?_)
  · obtain ⟨_, _, rfl, _⟩ := h; rfl
  subst hcv
  refine ⟨_, (x_moveS (s_sortS (i := 2) (iw := 1) (it := 0) (k := 1) S.nd rfl (by first | exact Or.inl rfl | exact Or.inr rfl) rfl (by first | exact Or.inl rfl | exact Or.inr (Or.inl rfl) | exact Or.inr (Or.inr rfl)) ⟨.of (by decide +kernel) rfl rfl rfl rfl rfl trivial, by decide, rfl, rfl, rfl, hC, rfl, hB, rfl, rfl, fun _ _ _ _ => rfl⟩ (hr.mono (by decide)) (fun f cd' s H' hr => (df3 (E := fun _ _ _ => False) (E3 := fun _ => False) (fun _ _ z _ => z) G_pressing (hr.mono (by decide)) rfl pass_no (a_cons (n3 0) (a_cons (n3 1) a_nil)))) rfl T.n_sorted)
    (fun H1 => (ss_cons (s_own (i := 3) S.nd rfl (by first | exact Or.inl rfl | exact Or.inr rfl) (lst3_ok a_nil))
    (ss_cons (s_while PassesOwn.leaving (pw3 (and3_ok (tcmp3 lt_ok (callB3 len_ok rfl T.n_len bo_len (a_cons (n3 3) a_nil)) (n3 0) (nomark _)) (and1_3 (not3_ok (val3 (df3 (E := fun _ _ _ => False) (E3 := fun _ => False) (fun _ _ z _ => z) G_is_late (hr.mono (by decide)) rfl pass_no (a_cons (n3 2) (a_cons (callB3 len_ok rfl T.n_len bo_len (a_cons (n3 3) a_nil)) a_nil)))))))) (ss_cons (s_set (i := 4) S.nd rfl (by first | exact Or.inl rfl | exact Or.inr rfl) (df3 (E := fun _ _ _ => False) (E3 := fun _ => False) (fun _ _ z _ => z) G_place_of_opened (hr.mono (by decide)) rfl pass_no (a_cons (n3 2) (a_cons (op3 add3_ok (callB3 len_ok rfl T.n_len bo_len (a_cons (n3 3) a_nil)) i3) a_nil))))
      (ss_cons (s_if (tcmp3 isN_ok (n3 4) non3 (nomark _)) (ss_one (s_ret (tup3_ok (a_cons s3 (a_cons (op3 add3_ok (callB3 len_ok rfl T.n_len bo_len (a_cons (n3 3) a_nil)) i3) a_nil))))) ss_nil)
      (ss_one (s_appPop (i := 3) (j := 2) rfl (by first | exact Or.inl rfl | exact Or.inr (Or.inl rfl) | exact Or.inr (Or.inr rfl)) rfl (by first | exact Or.inl rfl | exact Or.inr (Or.inl rfl) | exact Or.inr (Or.inr rfl)) (n3 4))))))
    (ss_cons (s_if (val3 (df3 (E := fun _ _ _ => False) (E3 := fun _ => False) (fun _ _ z _ => z) G_is_late (hr.mono (by decide)) rfl pass_no (a_cons (n3 2) (a_cons (callB3 len_ok rfl T.n_len bo_len (a_cons (n3 3) a_nil)) a_nil)))) (ss_one (s_ret (tup3_ok (a_cons s3 (a_cons (df3 (E := fun _ _ _ => False) (E3 := fun _ => False) (fun _ _ z _ => z) G_start_of_crowd (hr.mono (by decide)) rfl pass_no (a_cons (n3 3) a_nil)) (a_cons (callB3 len_ok rfl T.n_len bo_len (a_cons (n3 3) a_nil)) a_nil)))))) ss_nil)
    (ss_one (s_frz [3] (s_ret (tup3_ok (a_cons s3 (a_cons (new3 (comp_ok ["visit"] [] [] rfl (compSc (osc := defScope s_deal) (by decide +kernel)) rfl (it_list (n3 3)) (fun H0 s H fp cl => ⟨(t_name (i := 0) (show ((["visit"] : List PySem.Str) ++ ([] : List PySem.Str)).Nodup by decide) rfl (by first | exact Or.inl rfl | exact Or.inr rfl)), pt_nil, (at3 (n3 0) i3 (fun _ _ => rfl))⟩))) a_nil))))))))))), fun ds Q h => ?_⟩
  obtain ⟨T, V, rfl, hT0, hT, h64, ok, q⟩ := h
  refine seq_step fun N hN => ?_
  walk_at "rd"
  refine ⟨rfl, by rw [List.length_map]; exact h64, keyD T, fun d hd => ?_, key_nd ok.nd, fun ds' hp hs => ?_⟩
  · obtain ⟨v, _, rfl⟩ := List.mem_map.mp hd
    exact ⟨v, rfl, by rw [keyD_dW]⟩
  obtain ⟨w0, hp0, rfl⟩ := perm_of_map hp V rfl
  have hs0 : w0.Pairwise (less T) := by
    rw [List.pairwise_map] at hs
    exact hs.imp fun {a b} h => (lex_less T a b).mp h
  have d0 : Dealt T V w0 [] := Dealt.start hp0 hs0
  refine hN _ ?_
  clear hN N hp hs
  refine seq_step fun N hN => ?_
  walk_at "rd"
  refine hN _ ?_
  clear hN N
  refine seq_mid (fun ρ' => ∃ (wait given : List Win) (f : Bool) (t4 : Option L3.Cl), ρ' = [some (.sh true (.int T)), some (.sh false (.list (V.map dW))), some (.ow false (wait.map dW)), some (.ow f (given.map dW)), t4] ∧ Dealt T V wait given ∧ (given.length : Int) ≤ T ∧ ((given.length : Int) < T → lateW wait given.length = true)) (fun N hN => ?_) ?_
  · walk_at "rd"
    refine ⟨_, while_by (fun n ρ => ∃ (wait given : List Win) (f : Bool) (t4 : Option L3.Cl), ρ = [some (.sh true (.int T)), some (.sh false (.list (V.map dW))), some (.ow false (wait.map dW)), some (.ow f (given.map dW)), t4] ∧ Dealt T V wait given ∧ (given.length : Int) ≤ T ∧ n = (T - given.length).toNat) ?_ _ _ ⟨w0, [], true, none, rfl, d0, by simpa using hT0, rfl⟩⟩
    rintro n ρ ⟨wait, given, f, t4, rfl, dd, hg, rfl⟩ W hW
    simp (config := { maxSteps := 2000000 }) only [seq3, next3, set3, own3, ret3, ifS3, tt3, o3, v3, atV, asS, asB, asD, optP, asT, asLd, asL, atO, consP, nilP, asId, asI, k3, nw3, add3, int3, int0, eq3, ne3, eqOk, eqv3, isN3, notN3, isNone, ix3, ixD, cons3, nil3, call3, cb3, len3, lenD, min23, all3, if3, and3, or3, not3, andV3, notV3, tup3, lst3, listN, catN, isi3', L2.isD, gn3, gtup3, gcons3, gnil3, app3, frzS, frz, frz1, for3, itL, rg1, rg2, comp3, true3, cst3, start3, shs, Cl.d, Cl.dat, Cl.f, scal3, Option.map_some, Option.map_none, Option.isSome_some, Option.isSome_none, Option.join_some, Option.join_none, List.all_cons, List.all_nil, Bool.and_true, Bool.true_and, Bool.and_self, Bool.or_false, Bool.false_or, Bool.or_true, Bool.true_or, List.map_cons, List.map_nil, List.length_cons, List.length_nil, Nat.reduceAdd, Nat.reduceSub, Nat.sub_self, List.replicate, List.cons_append, List.nil_append, List.append_nil, List.getElem?_cons_zero, List.getElem?_cons_succ, List.set_cons_zero, List.set_cons_succ, Option.some.injEq, Cl.sh.injEq, Cl.ow.injEq, PyData.int.injEq, PyData.bool.injEq, PyData.str.injEq, PyData.list.injEq, PyData.tuple.injEq, List.cons.injEq, reduceCtorEq, and_assoc, and_true, true_and, and_self, exists_eq_left, exists_eq_left', exists_eq', exists_eq_right, exists_eq_right', exists_and_left, exists_const, exists_false, false_and, and_false, or_false, false_or, or_true, true_or, decide_true, decide_false, decide_eq_true_eq, Bool.not_true, Bool.not_false, Bool.false_eq_true, Bool.true_eq_false, if_true, if_false, ite_true, ite_false, Bool.not_eq_true', decide_eq_false_iff_not, eq_self_iff_true, not_true_eq_false, not_false_eq_true, sz0, sz2, sz3, sz4, appPop3, thawT, itE, sort3, seqX, itE1, rmv3, ltT3, as3, thawL, callS3, callY3, yend3, ifX3, weakE, weak1, sp_law_cell_at, sp_law_of_clan, sp_law_drawn_at, sp_law_visits, sp_law_first, sp_law_dealt, sp_is_late, sp_place_of_opened, sp_start_of_crowd, sp_pressing, sp_deal, sp_law_whole, sp_law_told, sp_law, dI, atI0, atI1, atI2, atI3, List.length_map]
    by_cases h1 : (given.length : Int) < T
    case neg => rw [if_neg h1]; exact hN _ ⟨wait, given, f, t4, rfl, dd, hg, fun z => absurd z h1⟩
    rw [if_pos h1]
    refine ⟨wait, rfl, ?_⟩
    cases hlt : lateW wait (given.length : Int) with
    | true => rw [if_neg (by decide)]; exact hN _ ⟨wait, given, f, t4, rfl, dd, hg, fun _ => hlt⟩
    | false =>
      rw [if_pos rfl]
      refine ⟨wait, rfl, ?_⟩
      cases hpl : placeW ((given.length : Int) + 1) wait with
      | none =>
        refine ⟨rfl, ?_⟩
        rw [if_pos rfl]
        exact q _ (.inl ⟨given.length + 1, by omega, by omega, dd.lack hpl, rfl⟩)
      | some p =>
        refine ⟨rfl, ?_⟩
        rw [if_neg (show ¬ (false = true) by decide)]
        obtain ⟨v, hv, d'⟩ := dd.step hg hlt hpl
        have hpw : p < wait.length := (List.getElem?_eq_some_iff.mp hv).1
        have hpl := dd.perm.length_eq
        rw [List.length_append] at hpl
        refine ⟨by decide, (p : Int), rfl, by omega, by omega, dW v, by rw [Int.toNat_natCast, List.getElem?_map, hv]; rfl, Nat.lt_of_lt_of_le (show given.length < 1000 by omega) (by decide), ?_⟩
        rw [Int.toNat_natCast, erase_map, show List.map dW given ++ [dW v] = List.map dW (given ++ [v]) by rw [List.map_append]; rfl]
        have hgl : (given ++ [v]).length = given.length + 1 := by rw [List.length_append]; rfl
        exact hW (T - ((given ++ [v]).length : Nat)).toNat _ (by rw [hgl]; omega) ⟨_, _, _, _, rfl, d', by rw [hgl]; omega, rfl⟩
  rintro ρ ⟨wait, given, f, t4, rfl, dd, hg, hl⟩
  refine seq_step fun N hN => ?_
  simp (config := { maxSteps := 2000000 }) only [seq3, next3, set3, own3, ret3, ifS3, tt3, o3, v3, atV, asS, asB, asD, optP, asT, asLd, asL, atO, consP, nilP, asId, asI, k3, nw3, add3, int3, int0, eq3, ne3, eqOk, eqv3, isN3, notN3, isNone, ix3, ixD, cons3, nil3, call3, cb3, len3, lenD, min23, all3, if3, and3, or3, not3, andV3, notV3, tup3, lst3, listN, catN, isi3', L2.isD, gn3, gtup3, gcons3, gnil3, app3, frzS, frz, frz1, for3, itL, rg1, rg2, comp3, true3, cst3, start3, shs, Cl.d, Cl.dat, Cl.f, scal3, Option.map_some, Option.map_none, Option.isSome_some, Option.isSome_none, Option.join_some, Option.join_none, List.all_cons, List.all_nil, Bool.and_true, Bool.true_and, Bool.and_self, Bool.or_false, Bool.false_or, Bool.or_true, Bool.true_or, List.map_cons, List.map_nil, List.length_cons, List.length_nil, Nat.reduceAdd, Nat.reduceSub, Nat.sub_self, List.replicate, List.cons_append, List.nil_append, List.append_nil, List.getElem?_cons_zero, List.getElem?_cons_succ, List.set_cons_zero, List.set_cons_succ, Option.some.injEq, Cl.sh.injEq, Cl.ow.injEq, PyData.int.injEq, PyData.bool.injEq, PyData.str.injEq, PyData.list.injEq, PyData.tuple.injEq, List.cons.injEq, reduceCtorEq, and_assoc, and_true, true_and, and_self, exists_eq_left, exists_eq_left', exists_eq', exists_eq_right, exists_eq_right', exists_and_left, exists_const, exists_false, false_and, and_false, or_false, false_or, or_true, true_or, decide_true, decide_false, decide_eq_true_eq, Bool.not_true, Bool.not_false, Bool.false_eq_true, Bool.true_eq_false, if_true, if_false, ite_true, ite_false, Bool.not_eq_true', decide_eq_false_iff_not, eq_self_iff_true, not_true_eq_false, not_false_eq_true, sz0, sz2, sz3, sz4, appPop3, thawT, itE, sort3, seqX, itE1, rmv3, ltT3, as3, thawL, callS3, callY3, yend3, ifX3, weakE, weak1, sp_law_cell_at, sp_law_of_clan, sp_law_drawn_at, sp_law_visits, sp_law_first, sp_law_dealt, sp_is_late, sp_place_of_opened, sp_start_of_crowd, sp_pressing, sp_deal, sp_law_whole, sp_law_told, sp_law, dI, atI0, atI1, atI2, atI3, List.length_map]
  refine ⟨wait, rfl, ?_⟩
  cases hlt : lateW wait (given.length : Int) with
  | true =>
    rw [if_pos rfl]
    refine ⟨given, rfl, ?_⟩
    have := dd.crowd ok hg hlt
    exact q _ (.inr (.inl ⟨_, _, this.1, by omega, this.2, rfl⟩))
  | false =>
    rw [if_neg (by decide)]
    have hgT : (given.length : Int) = T := by
      by_cases z : (given.length : Int) < T
      · have := hl z; rw [hlt] at this; cases this
      · omega
    refine hN _ ?_
    clear hN N
    have hpl := dd.perm.length_eq
    rw [List.length_append] at hpl
    simp (config := { maxSteps := 2000000 }) only [seq3, next3, set3, own3, ret3, ifS3, tt3, o3, v3, atV, asS, asB, asD, optP, asT, asLd, asL, atO, consP, nilP, asId, asI, k3, nw3, add3, int3, int0, eq3, ne3, eqOk, eqv3, isN3, notN3, isNone, ix3, ixD, cons3, nil3, call3, cb3, len3, lenD, min23, all3, if3, and3, or3, not3, andV3, notV3, tup3, lst3, listN, catN, isi3', L2.isD, gn3, gtup3, gcons3, gnil3, app3, frzS, frz, frz1, for3, itL, rg1, rg2, comp3, true3, cst3, start3, shs, Cl.d, Cl.dat, Cl.f, scal3, Option.map_some, Option.map_none, Option.isSome_some, Option.isSome_none, Option.join_some, Option.join_none, List.all_cons, List.all_nil, Bool.and_true, Bool.true_and, Bool.and_self, Bool.or_false, Bool.false_or, Bool.or_true, Bool.true_or, List.map_cons, List.map_nil, List.length_cons, List.length_nil, Nat.reduceAdd, Nat.reduceSub, Nat.sub_self, List.replicate, List.cons_append, List.nil_append, List.append_nil, List.getElem?_cons_zero, List.getElem?_cons_succ, List.set_cons_zero, List.set_cons_succ, Option.some.injEq, Cl.sh.injEq, Cl.ow.injEq, PyData.int.injEq, PyData.bool.injEq, PyData.str.injEq, PyData.list.injEq, PyData.tuple.injEq, List.cons.injEq, reduceCtorEq, and_assoc, and_true, true_and, and_self, exists_eq_left, exists_eq_left', exists_eq', exists_eq_right, exists_eq_right', exists_and_left, exists_const, exists_false, false_and, and_false, or_false, false_or, or_true, true_or, decide_true, decide_false, decide_eq_true_eq, Bool.not_true, Bool.not_false, Bool.false_eq_true, Bool.true_eq_false, if_true, if_false, ite_true, ite_false, Bool.not_eq_true', decide_eq_false_iff_not, eq_self_iff_true, not_true_eq_false, not_false_eq_true, sz0, sz2, sz3, sz4, appPop3, thawT, itE, sort3, seqX, itE1, rmv3, ltT3, as3, thawL, callS3, callY3, yend3, ifX3, weakE, weak1, sp_law_cell_at, sp_law_of_clan, sp_law_drawn_at, sp_law_visits, sp_law_first, sp_law_dealt, sp_is_late, sp_place_of_opened, sp_start_of_crowd, sp_pressing, sp_deal, sp_law_whole, sp_law_told, sp_law, dI, atI0, atI1, atI2, atI3, List.length_map]
    refine ⟨sz (by omega), ?_⟩
    refine comp_map dW (fun v => PyData.int v.1) (fun ρ => ∃ t, ρ = [t]) given ?_ _ _ _ _ ⟨none, rfl⟩ ?_
    · rintro v hv ρ fa acc K ⟨t, rfl⟩ k
      simp (config := { maxSteps := 2000000 }) only [seq3, next3, set3, own3, ret3, ifS3, tt3, o3, v3, atV, asS, asB, asD, optP, asT, asLd, asL, atO, consP, nilP, asId, asI, k3, nw3, add3, int3, int0, eq3, ne3, eqOk, eqv3, isN3, notN3, isNone, ix3, ixD, cons3, nil3, call3, cb3, len3, lenD, min23, all3, if3, and3, or3, not3, andV3, notV3, tup3, lst3, listN, catN, isi3', L2.isD, gn3, gtup3, gcons3, gnil3, app3, frzS, frz, frz1, for3, itL, rg1, rg2, comp3, true3, cst3, start3, shs, Cl.d, Cl.dat, Cl.f, scal3, Option.map_some, Option.map_none, Option.isSome_some, Option.isSome_none, Option.join_some, Option.join_none, List.all_cons, List.all_nil, Bool.and_true, Bool.true_and, Bool.and_self, Bool.or_false, Bool.false_or, Bool.or_true, Bool.true_or, List.map_cons, List.map_nil, List.length_cons, List.length_nil, Nat.reduceAdd, Nat.reduceSub, Nat.sub_self, List.replicate, List.cons_append, List.nil_append, List.append_nil, List.getElem?_cons_zero, List.getElem?_cons_succ, List.set_cons_zero, List.set_cons_succ, Option.some.injEq, Cl.sh.injEq, Cl.ow.injEq, PyData.int.injEq, PyData.bool.injEq, PyData.str.injEq, PyData.list.injEq, PyData.tuple.injEq, List.cons.injEq, reduceCtorEq, and_assoc, and_true, true_and, and_self, exists_eq_left, exists_eq_left', exists_eq', exists_eq_right, exists_eq_right', exists_and_left, exists_const, exists_false, false_and, and_false, or_false, false_or, or_true, true_or, decide_true, decide_false, decide_eq_true_eq, Bool.not_true, Bool.not_false, Bool.false_eq_true, Bool.true_eq_false, if_true, if_false, ite_true, ite_false, Bool.not_eq_true', decide_eq_false_iff_not, eq_self_iff_true, not_true_eq_false, not_false_eq_true, sz0, sz2, sz3, sz4, appPop3, thawT, itE, sort3, seqX, itE1, rmv3, ltT3, as3, thawL, callS3, callY3, yend3, ifX3, weakE, weak1, sp_law_cell_at, sp_law_of_clan, sp_law_drawn_at, sp_law_visits, sp_law_first, sp_law_dealt, sp_is_late, sp_place_of_opened, sp_start_of_crowd, sp_pressing, sp_deal, sp_law_whole, sp_law_told, sp_law, dI, atI0, atI1, atI2, atI3, dW]
      exact k _ ⟨_, rfl⟩
    · refine q _ (.inr (.inr ⟨given.map (·.1), by rw [List.length_map]; exact hgT, dd.row ok hgT hlt, ⟨wait, given, dd, hgT, rfl⟩, by unfold dI; rw [List.nil_append, List.map_map]; rfl⟩))
theorem ok_deal (T : Txt c K mg) (hB : BMod mg base) (kb : K.In base) (G_is_late : Df3 P w K mg base 1 "is_late" ["waiting", "gone"] sp_is_late) (G_place_of_opened : Df3 P w K mg base 1 "place_of_opened" ["waiting", "turn"] sp_place_of_opened) (G_start_of_crowd : Df3 P w K mg base 1 "start_of_crowd" ["given"] sp_start_of_crowd) (G_pressing : Df3 P w K mg base 1 "pressing" ["visit", "turns"] sp_pressing) (b : Bool) : DfXS b P w K mg base c.tb lamP lamQ 5 "deal" ["turns", "windows"] sp_deal := by
  obtain ⟨f, fd, F, hm, hcd⟩ := T.x_deal
  have hb := F.binds (ps := ["turns", "windows"]) fun _ _ _ _ _ _ us hl => by obtain ⟨_, _, rfl⟩ := arity2 hl; rfl
  refine ⟨fun ds Q Q' E hQ h => ?_, ⟨f, fd, fn_deal b T hB kb G_is_late G_place_of_opened G_start_of_crowd G_pressing F hcd, hb, F.kp, hm⟩⟩
  obtain ⟨a, b, e, x1, x2, x3, x4, h⟩ := h; exact ⟨a, b, e, x1, x2, x3, x4, fun d z => hQ _ _ (h d z)⟩
theorem sc_law_whole : FnScope ["_law_found"] ["_law_found"] (defScope s_law_whole) := ⟨rfl, rfl, rfl, by decide +kernel, rfl, by decide +kernel, by decide +kernel⟩
set_option maxHeartbeats 4000000 in
theorem fn_law_whole (T : Txt c K mg)  {f : Addr} {fd : FuncData} (F : Fun K "_law_whole" "_law_whole" s_law_whole f fd) : FnOk P w K mg base (CXR P w) 1 f fd ["_law_found"] (spL K sp_law_whole) := by
  have S := sc_law_whole
  refine fn3 F S (fun ds Q E h => ?_) (fun cdv A outer s H E E3 hE hr => ?_)
  · obtain ⟨_, rfl, _⟩ := h; rfl
  refine ⟨_, (ss_one (s_ret (andV3_ok (isinst3 rfl T.n_isinstance rfl rfl T.n_int bo_int (n3 0)) (one3 (notV3_ok (isinst3 rfl T.n_isinstance rfl rfl T.n_bool bo_bool (n3 0))))))), fun ds Q h => ?_⟩
  obtain ⟨a, rfl, q⟩ := h
  walk_at "rd"
  exact ⟨false, if_neg (by decide), q⟩
theorem ok_law_whole (T : Txt c K mg)  : Df3 P w K mg base 1 "_law_whole" ["_law_found"] sp_law_whole := by
  obtain ⟨f, fd, F, hm⟩ := T.d_law_whole
  have hb := F.binds (ps := ["_law_found"]) fun _ _ _ _ _ _ us hl => by obtain ⟨_, rfl⟩ := arity1 hl; rfl
  refine ⟨fun ds Q Q' E E' hQ hE h => ?_, ⟨f, fd, fn_law_whole T  F, hb, F.kp, hm⟩⟩
  obtain ⟨a, e, h⟩ := h; exact ⟨a, e, hQ _ _ h⟩
theorem sc_law_told : FnScope ["_law_turns", "_law_handed", "_law_due", "_law_found"] ["_law_turns", "_law_handed", "_law_due"] (defScope s_law_told) := ⟨rfl, rfl, rfl, by decide +kernel, rfl, by decide +kernel, by decide +kernel⟩
set_option maxHeartbeats 4000000 in
theorem fn_law_told (b : Bool) (T : Txt c K mg) (hB : BMod mg base) (kb : K.In base) (G_deal : ∀ b, DfXS b P w K mg base c.tb lamP lamQ 5 "deal" ["turns", "windows"] sp_deal) (G_law_whole : Df3 P w K mg base 1 "_law_whole" ["_law_found"] sp_law_whole) {f : Addr} {fd : FuncData} (F : Fun K "_law_told" "_law_told" s_law_told f fd) : FnOk P w K mg base (CXR P w) 6 f fd ["_law_turns", "_law_handed", "_law_due"] (spXS b K c.tb lamP lamQ sp_law_told) := by
  have S := sc_law_told
  have hC := T.hdC base kb
  refine fnXS (cv := fun v => True) F trivial S (fun ds Q E h => ?_) (fun cdv A outer s H E hcv hr => ?_)
  · obtain ⟨_, _, _, rfl, _⟩ := h; rfl
  refine ⟨_, (y_call (i := 3) S.nd rfl (by first | exact Or.inl rfl | exact Or.inr rfl) (G_deal b) (hr.mono (by decide)) rfl (a_cons (n3 0) (a_cons (n3 1) a_nil)) (fun H1 => (y_cons (s_if (pw3 (or3_ok (not3_ok (val3 (isinst3 rfl T.n_isinstance rfl rfl T.n_tuple bo_tuple (n3 3)))) (or1_3 (tcmp3 lt_ok (callB3 len_ok rfl T.n_len bo_len (a_cons (n3 3) a_nil)) i3 (nomark _))))) (ss_one (s_ret b3)) ss_nil)
    (y_cons (s_if (tcmp3 isN_ok (n3 2) non3 (nomark _)) (ss_one (s_ret (cmp3 (ne_ok hr.units) (at3 (n3 3) i3 (fun _ _ => rfl)) s3 (nomark _)))) ss_nil)
    (y_cons (s_if (pw3 (or3_ok (tcmp3 (ne_ok hr.units) (n3 3) (tup3_ok (a_cons s3 (a_cons (n3 2) a_nil))) (nomark _)) (or3_ok (not3_ok (val3 (isinst3 rfl T.n_isinstance rfl rfl T.n_list bo_list (at3 (n3 3) i3 (fun _ _ => rfl))))) (or1_3 (not3_ok (val3 (callB3 (all_ok rfl) rfl T.n_all bo_all (a_cons (new3 (comp_ok ["_law_one"] [] [] rfl (compSc (osc := defScope s_law_told) (by decide +kernel)) rfl (it_list (at3 (n3 3) i3 (fun _ _ => rfl))) (fun H0 s H fp cl => ⟨(t_name (i := 0) (show ((["_law_one"] : List PySem.Str) ++ ([] : List PySem.Str)).Nodup by decide) rfl (by first | exact Or.inl rfl | exact Or.inr rfl)), pt_nil, (df3 (E := fun _ _ _ => False) (E3 := fun _ => False) (fun _ _ z _ => z) G_law_whole (hr.mono (by decide)) rfl pass_no (a_cons (n3 0) a_nil))⟩))) a_nil)))))))) (ss_one (s_ret b3)) ss_nil)
    (y_end (i := 3) rfl (by first | exact Or.inl rfl | exact Or.inr (Or.inl rfl) | exact Or.inr (Or.inr rfl)))))))), fun ds Q h => ?_⟩
  obtain ⟨T, V, due, rfl, hT0, hT, hV, ok, hdue, q⟩ := h
  refine callY_step fun N hN => ?_
  rcases hdue with ⟨rfl, d0, hno⟩ | ⟨row, rfl, hr1, hr2, hr3⟩
  · simp (config := { maxSteps := 2000000 }) only [seq3, next3, set3, own3, ret3, ifS3, tt3, o3, v3, atV, asS, asB, asD, optP, asT, asLd, asL, atO, consP, nilP, asId, asI, k3, nw3, add3, int3, int0, eq3, ne3, eqOk, eqv3, isN3, notN3, isNone, ix3, ixD, cons3, nil3, call3, cb3, len3, lenD, min23, all3, if3, and3, or3, not3, andV3, notV3, tup3, lst3, listN, catN, isi3', L2.isD, gn3, gtup3, gcons3, gnil3, app3, frzS, frz, frz1, for3, itL, rg1, rg2, comp3, true3, cst3, start3, shs, Cl.d, Cl.dat, Cl.f, scal3, Option.map_some, Option.map_none, Option.isSome_some, Option.isSome_none, Option.join_some, Option.join_none, List.all_cons, List.all_nil, Bool.and_true, Bool.true_and, Bool.and_self, Bool.or_false, Bool.false_or, Bool.or_true, Bool.true_or, List.map_cons, List.map_nil, List.length_cons, List.length_nil, Nat.reduceAdd, Nat.reduceSub, Nat.sub_self, List.replicate, List.cons_append, List.nil_append, List.append_nil, List.getElem?_cons_zero, List.getElem?_cons_succ, List.set_cons_zero, List.set_cons_succ, Option.some.injEq, Cl.sh.injEq, Cl.ow.injEq, PyData.int.injEq, PyData.bool.injEq, PyData.str.injEq, PyData.list.injEq, PyData.tuple.injEq, List.cons.injEq, reduceCtorEq, and_assoc, and_true, true_and, and_self, exists_eq_left, exists_eq_left', exists_eq', exists_eq_right, exists_eq_right', exists_and_left, exists_const, exists_false, false_and, and_false, or_false, false_or, or_true, true_or, decide_true, decide_false, decide_eq_true_eq, Bool.not_true, Bool.not_false, Bool.false_eq_true, Bool.true_eq_false, if_true, if_false, ite_true, ite_false, Bool.not_eq_true', decide_eq_false_iff_not, eq_self_iff_true, not_true_eq_false, not_false_eq_true, sz0, sz2, sz3, sz4, appPop3, thawT, itE, sort3, seqX, itE1, rmv3, ltT3, as3, thawL, callS3, callY3, yend3, ifX3, weakE, weak1, sp_law_cell_at, sp_law_of_clan, sp_law_drawn_at, sp_law_visits, sp_law_first, sp_law_dealt, sp_is_late, sp_place_of_opened, sp_start_of_crowd, sp_pressing, sp_deal, sp_law_whole, sp_law_told, sp_law, dI, atI0, atI1, atI2, atI3, List.length_map]
    refine ⟨V, rfl, hT0, by omega, hV, ok, fun d hd => hN _ _ ?_⟩
    clear hN N
    rcases hd with ⟨t, a1, a2, a3, rfl⟩ | ⟨a, b, a1, a2, a3, rfl⟩ | ⟨row', h1, h2, h3, rfl⟩
    · refine seq_step fun N hN => ?_
      walk_at "rd"
      rw [if_neg (by decide)]
      refine hN _ ?_
      clear hN N
      refine seq_step fun N hN => ?_
      walk_at "rd"
      exact q
    · refine seq_step fun N hN => ?_
      walk_at "rd"
      rw [if_neg (by decide)]
      refine hN _ ?_
      clear hN N
      refine seq_step fun N hN => ?_
      walk_at "rd"
      exact q
    · rcases hno with ⟨t, a1, a2, a3, _⟩ | ⟨a, b, a1, a2, a3, _⟩
      · exact (lack_no a3 (by omega) h2).elim
      · exact (crowd_no ok a1 a3 h2).elim
  · simp (config := { maxSteps := 2000000 }) only [seq3, next3, set3, own3, ret3, ifS3, tt3, o3, v3, atV, asS, asB, asD, optP, asT, asLd, asL, atO, consP, nilP, asId, asI, k3, nw3, add3, int3, int0, eq3, ne3, eqOk, eqv3, isN3, notN3, isNone, ix3, ixD, cons3, nil3, call3, cb3, len3, lenD, min23, all3, if3, and3, or3, not3, andV3, notV3, tup3, lst3, listN, catN, isi3', L2.isD, gn3, gtup3, gcons3, gnil3, app3, frzS, frz, frz1, for3, itL, rg1, rg2, comp3, true3, cst3, start3, shs, Cl.d, Cl.dat, Cl.f, scal3, Option.map_some, Option.map_none, Option.isSome_some, Option.isSome_none, Option.join_some, Option.join_none, List.all_cons, List.all_nil, Bool.and_true, Bool.true_and, Bool.and_self, Bool.or_false, Bool.false_or, Bool.or_true, Bool.true_or, List.map_cons, List.map_nil, List.length_cons, List.length_nil, Nat.reduceAdd, Nat.reduceSub, Nat.sub_self, List.replicate, List.cons_append, List.nil_append, List.append_nil, List.getElem?_cons_zero, List.getElem?_cons_succ, List.set_cons_zero, List.set_cons_succ, Option.some.injEq, Cl.sh.injEq, Cl.ow.injEq, PyData.int.injEq, PyData.bool.injEq, PyData.str.injEq, PyData.list.injEq, PyData.tuple.injEq, List.cons.injEq, reduceCtorEq, and_assoc, and_true, true_and, and_self, exists_eq_left, exists_eq_left', exists_eq', exists_eq_right, exists_eq_right', exists_and_left, exists_const, exists_false, false_and, and_false, or_false, false_or, or_true, true_or, decide_true, decide_false, decide_eq_true_eq, Bool.not_true, Bool.not_false, Bool.false_eq_true, Bool.true_eq_false, if_true, if_false, ite_true, ite_false, Bool.not_eq_true', decide_eq_false_iff_not, eq_self_iff_true, not_true_eq_false, not_false_eq_true, sz0, sz2, sz3, sz4, appPop3, thawT, itE, sort3, seqX, itE1, rmv3, ltT3, as3, thawL, callS3, callY3, yend3, ifX3, weakE, weak1, sp_law_cell_at, sp_law_of_clan, sp_law_drawn_at, sp_law_visits, sp_law_first, sp_law_dealt, sp_is_late, sp_place_of_opened, sp_start_of_crowd, sp_pressing, sp_deal, sp_law_whole, sp_law_told, sp_law, dI, atI0, atI1, atI2, atI3, List.length_map]
    refine ⟨V, rfl, hT0, by omega, hV, ok, fun d hd => hN _ _ ?_⟩
    clear hN N
    rcases hd with ⟨t, a1, a2, a3, rfl⟩ | ⟨a, b, a1, a2, a3, rfl⟩ | ⟨row', h1, h2, h3, rfl⟩
    · exact (lack_no a3 (by omega) hr2).elim
    · exact (crowd_no ok a1 a3 hr2).elim
    · obtain rfl := h3.one ok.nd hr3
      have p1 := (plain_told row').shaped (by decide)
      have p2 := eqv_refl (plain_told row').1
      refine seq_step fun N hN => ?_
      walk_at "rd"
      rw [if_neg (by decide)]
      refine hN _ ?_
      clear hN N
      refine seq_step fun N hN => ?_
      walk_at "rd"
      refine hN _ ?_
      clear hN N
      refine seq_step fun N hN => ?_
      simp (config := { maxSteps := 2000000 }) only [seq3, next3, set3, own3, ret3, ifS3, tt3, o3, v3, atV, asS, asB, asD, optP, asT, asLd, asL, atO, consP, nilP, asId, asI, k3, nw3, add3, int3, int0, eq3, ne3, eqOk, eqv3, isN3, notN3, isNone, ix3, ixD, cons3, nil3, call3, cb3, len3, lenD, min23, all3, if3, and3, or3, not3, andV3, notV3, tup3, lst3, listN, catN, isi3', L2.isD, gn3, gtup3, gcons3, gnil3, app3, frzS, frz, frz1, for3, itL, rg1, rg2, comp3, true3, cst3, start3, shs, Cl.d, Cl.dat, Cl.f, scal3, Option.map_some, Option.map_none, Option.isSome_some, Option.isSome_none, Option.join_some, Option.join_none, List.all_cons, List.all_nil, Bool.and_true, Bool.true_and, Bool.and_self, Bool.or_false, Bool.false_or, Bool.or_true, Bool.true_or, List.map_cons, List.map_nil, List.length_cons, List.length_nil, Nat.reduceAdd, Nat.reduceSub, Nat.sub_self, List.replicate, List.cons_append, List.nil_append, List.append_nil, List.getElem?_cons_zero, List.getElem?_cons_succ, List.set_cons_zero, List.set_cons_succ, Option.some.injEq, Cl.sh.injEq, Cl.ow.injEq, PyData.int.injEq, PyData.bool.injEq, PyData.str.injEq, PyData.list.injEq, PyData.tuple.injEq, List.cons.injEq, reduceCtorEq, and_assoc, and_true, true_and, and_self, exists_eq_left, exists_eq_left', exists_eq', exists_eq_right, exists_eq_right', exists_and_left, exists_const, exists_false, false_and, and_false, or_false, false_or, or_true, true_or, decide_true, decide_false, decide_eq_true_eq, Bool.not_true, Bool.not_false, Bool.false_eq_true, Bool.true_eq_false, if_true, if_false, ite_true, ite_false, Bool.not_eq_true', decide_eq_false_iff_not, eq_self_iff_true, not_true_eq_false, not_false_eq_true, sz0, sz2, sz3, sz4, appPop3, thawT, itE, sort3, seqX, itE1, rmv3, ltT3, as3, thawL, callS3, callY3, yend3, ifX3, weakE, weak1, sp_law_cell_at, sp_law_of_clan, sp_law_drawn_at, sp_law_visits, sp_law_first, sp_law_dealt, sp_is_late, sp_place_of_opened, sp_start_of_crowd, sp_pressing, sp_deal, sp_law_whole, sp_law_told, sp_law, dI, atI0, atI1, atI2, atI3, p2]
      refine ⟨p1, sz (by rw [List.length_map]; omega), ?_⟩
      refine comp_map PyData.int (fun _ => PyData.bool true) (fun ρ => ∃ x, ρ = [x]) row' ?_ _ _ _ _ ⟨none, rfl⟩ ?_
      · rintro i hi ρ fa acc K ⟨x, rfl⟩ k
        walk_at "rd"
        exact k _ ⟨_, rfl⟩
      refine ⟨row'.map fun _ => true, ?_, ?_⟩
      · rw [List.nil_append, ← unBools_map (row'.map fun _ => true), List.map_map]; rfl
      rw [if_neg (by simp)]
      refine hN _ ?_
      clear hN N
      simp (config := { maxSteps := 2000000 }) only [seq3, next3, set3, own3, ret3, ifS3, tt3, o3, v3, atV, asS, asB, asD, optP, asT, asLd, asL, atO, consP, nilP, asId, asI, k3, nw3, add3, int3, int0, eq3, ne3, eqOk, eqv3, isN3, notN3, isNone, ix3, ixD, cons3, nil3, call3, cb3, len3, lenD, min23, all3, if3, and3, or3, not3, andV3, notV3, tup3, lst3, listN, catN, isi3', L2.isD, gn3, gtup3, gcons3, gnil3, app3, frzS, frz, frz1, for3, itL, rg1, rg2, comp3, true3, cst3, start3, shs, Cl.d, Cl.dat, Cl.f, scal3, Option.map_some, Option.map_none, Option.isSome_some, Option.isSome_none, Option.join_some, Option.join_none, List.all_cons, List.all_nil, Bool.and_true, Bool.true_and, Bool.and_self, Bool.or_false, Bool.false_or, Bool.or_true, Bool.true_or, List.map_cons, List.map_nil, List.length_cons, List.length_nil, Nat.reduceAdd, Nat.reduceSub, Nat.sub_self, List.replicate, List.cons_append, List.nil_append, List.append_nil, List.getElem?_cons_zero, List.getElem?_cons_succ, List.set_cons_zero, List.set_cons_succ, Option.some.injEq, Cl.sh.injEq, Cl.ow.injEq, PyData.int.injEq, PyData.bool.injEq, PyData.str.injEq, PyData.list.injEq, PyData.tuple.injEq, List.cons.injEq, reduceCtorEq, and_assoc, and_true, true_and, and_self, exists_eq_left, exists_eq_left', exists_eq', exists_eq_right, exists_eq_right', exists_and_left, exists_const, exists_false, false_and, and_false, or_false, false_or, or_true, true_or, decide_true, decide_false, decide_eq_true_eq, Bool.not_true, Bool.not_false, Bool.false_eq_true, Bool.true_eq_false, if_true, if_false, ite_true, ite_false, Bool.not_eq_true', decide_eq_false_iff_not, eq_self_iff_true, not_true_eq_false, not_false_eq_true, sz0, sz2, sz3, sz4, appPop3, thawT, itE, sort3, seqX, itE1, rmv3, ltT3, as3, thawL, callS3, callY3, yend3, ifX3, weakE, weak1, sp_law_cell_at, sp_law_of_clan, sp_law_drawn_at, sp_law_visits, sp_law_first, sp_law_dealt, sp_is_late, sp_place_of_opened, sp_start_of_crowd, sp_pressing, sp_deal, sp_law_whole, sp_law_told, sp_law, dI, atI0, atI1, atI2, atI3, List.length_map]
      exact ⟨Nat.lt_of_lt_of_le (show _ < 1000 by omega) (by decide), q⟩
theorem ok_law_told (T : Txt c K mg) (hB : BMod mg base) (kb : K.In base) (G_deal : ∀ b, DfXS b P w K mg base c.tb lamP lamQ 5 "deal" ["turns", "windows"] sp_deal) (G_law_whole : Df3 P w K mg base 1 "_law_whole" ["_law_found"] sp_law_whole) (b : Bool) : DfXS b P w K mg base c.tb lamP lamQ 6 "_law_told" ["_law_turns", "_law_handed", "_law_due"] sp_law_told := by
  obtain ⟨f, fd, F, hm⟩ := T.d_law_told
  have hb := F.binds (ps := ["_law_turns", "_law_handed", "_law_due"]) fun _ _ _ _ _ _ us hl => by obtain ⟨_, _, _, rfl⟩ := arity3 hl; rfl
  refine ⟨fun ds Q Q' E hQ h => ?_, ⟨f, fd, fn_law_told b T hB kb G_deal G_law_whole F, hb, F.kp, hm⟩⟩
  obtain ⟨a, b, d, e, x1, x2, x3, x4, x5, h⟩ := h; exact ⟨a, b, d, e, x1, x2, x3, x4, x5, hQ _ _ h⟩
theorem sc_law : FnScope ["_law_script", "_law_turns", "_law_visits_here", "_law_due", "_law_handed"] ["_law_script"] (defScope s_law) := ⟨rfl, rfl, rfl, by decide +kernel, rfl, by decide +kernel, by decide +kernel⟩
set_option maxHeartbeats 4000000 in
theorem fn_law (T : Txt c K mg) (hB : BMod mg base) (kb : K.In base) (G_law_visits : Df3 P w K mg base 3 "_law_visits" ["_law_script", "_law_turns"] sp_law_visits) (G_law_dealt : Df3 P w K mg base 2 "_law_dealt" ["_law_turns", "_law_visits_here"] sp_law_dealt) (G_law_told : ∀ b, DfXS b P w K mg base c.tb lamP lamQ 6 "_law_told" ["_law_turns", "_law_handed", "_law_due"] sp_law_told) (G_law_cell_at : Df3 P w K mg base 1 "_law_cell_at" ["_law_script", "_law_k"] sp_law_cell_at) {f : Addr} {fd : FuncData} (F : Fun K "law" "law" s_law f fd) : FnOk P w K mg base (CXR P w) 7 f fd ["_law_script"] (spXS true K c.tb lamP lamQ sp_law) := by
  have S := sc_law
  have hC := T.hdC base kb
  refine fnXS (cv := fun v => True) F trivial S (fun ds Q E h => ?_) (fun cdv A outer s H E hcv hr => ?_)
  · obtain ⟨_, rfl, _⟩ := h; rfl
  refine ⟨_, (x_consS (s_set (i := 1) S.nd rfl (by first | exact Or.inl rfl | exact Or.inr rfl) (op3 add3_ok i3 (op3 mod_ok (df3 (E := fun _ _ _ => False) (E3 := fun _ => False) (fun _ _ z _ => z) G_law_cell_at (hr.mono (by decide)) rfl pass_no (a_cons (n3 0) (a_cons i3 a_nil))) i3)))
    (x_consS (s_set (i := 2) S.nd rfl (by first | exact Or.inl rfl | exact Or.inr rfl) (df3 (E := fun _ _ _ => False) (E3 := fun _ => False) (fun _ _ z _ => z) G_law_visits (hr.mono (by decide)) rfl pass_no (a_cons (n3 0) (a_cons (n3 1) a_nil))))
    (x_consS (s_set (i := 3) S.nd rfl (by first | exact Or.inl rfl | exact Or.inr rfl) (df3 (E := fun _ _ _ => False) (E3 := fun _ => False) (fun _ _ z _ => z) G_law_dealt (hr.mono (by decide)) rfl pass_no (a_cons (n3 1) (a_cons (n3 2) a_nil))))
    (x_consS (s_set (i := 4) S.nd rfl (by first | exact Or.inl rfl | exact Or.inr rfl) (new3 (list3 rfl T.n_list bo_list (a_cons (n3 2) a_nil))))
    (z_if (G_law_told true) (hr.mono (by decide)) rfl (a_cons (n3 1) (a_cons (n3 4) (a_cons (n3 3) a_nil))) (fun H1 => (tcmp3 (ne_ok hr.units) (n3 4) (n3 2) (nomark _))) (fun H1 => (ss_one (s_ret b3))) (fun H1 lk => (ss_one (s_ret (andV3_ok (dfS lk (G_law_told false) (hr.mono (by decide)) rfl (a_cons (n3 1) (a_cons (n3 4) (a_cons (n3 3) a_nil)))) (one3 (cmp3 (eq_ok hr.units) (n3 4) (n3 2) (nomark _)))))))))))), fun ds Q h => ?_⟩
  obtain ⟨ns, rfl, hl, q⟩ := h
  refine seqX_step fun N hN => ?_
  walk_at "rd"
  refine ⟨ns, rfl, by decide, fun v => ⟨by decide, hN _ ?_⟩⟩
  clear hN N
  have hT : 1 ≤ 1 + v % 60 ∧ 1 + v % 60 ≤ 60 := by omega
  generalize 1 + v % 60 = T at hT ⊢
  refine seqX_step fun N hN => ?_
  walk_at "rd"
  refine ⟨ns, rfl, hT.1, by omega, fun V ok hV => hN _ ?_⟩
  clear hN N
  refine seqX_mid (fun ρ' => ∃ due : D, ρ' = [some (.sh false (.list (ns.map .int))), some (.sh true (.int T)), some (.sh true (.list (V.map dW))), some (.sh true due), none] ∧ (due = .none ∧ (∃ d, lackP T V d ∨ crowdP V d) ∨ ∃ row : List Int, due = dI row ∧ (row.length : Int) = T ∧ FitsR V row ∧ RowIs T V row)) (fun N hN => ?_) ?_
  · simp (config := { maxSteps := 2000000 }) only [seq3, next3, set3, own3, ret3, ifS3, tt3, o3, v3, atV, asS, asB, asD, optP, asT, asLd, asL, atO, consP, nilP, asId, asI, k3, nw3, add3, int3, int0, eq3, ne3, eqOk, eqv3, isN3, notN3, isNone, ix3, ixD, cons3, nil3, call3, cb3, len3, lenD, min23, all3, if3, and3, or3, not3, andV3, notV3, tup3, lst3, listN, catN, isi3', L2.isD, gn3, gtup3, gcons3, gnil3, app3, frzS, frz, frz1, for3, itL, rg1, rg2, comp3, true3, cst3, start3, shs, Cl.d, Cl.dat, Cl.f, scal3, Option.map_some, Option.map_none, Option.isSome_some, Option.isSome_none, Option.join_some, Option.join_none, List.all_cons, List.all_nil, Bool.and_true, Bool.true_and, Bool.and_self, Bool.or_false, Bool.false_or, Bool.or_true, Bool.true_or, List.map_cons, List.map_nil, List.length_cons, List.length_nil, Nat.reduceAdd, Nat.reduceSub, Nat.sub_self, List.replicate, List.cons_append, List.nil_append, List.append_nil, List.getElem?_cons_zero, List.getElem?_cons_succ, List.set_cons_zero, List.set_cons_succ, Option.some.injEq, Cl.sh.injEq, Cl.ow.injEq, PyData.int.injEq, PyData.bool.injEq, PyData.str.injEq, PyData.list.injEq, PyData.tuple.injEq, List.cons.injEq, reduceCtorEq, and_assoc, and_true, true_and, and_self, exists_eq_left, exists_eq_left', exists_eq', exists_eq_right, exists_eq_right', exists_and_left, exists_const, exists_false, false_and, and_false, or_false, false_or, or_true, true_or, decide_true, decide_false, decide_eq_true_eq, Bool.not_true, Bool.not_false, Bool.false_eq_true, Bool.true_eq_false, if_true, if_false, ite_true, ite_false, Bool.not_eq_true', decide_eq_false_iff_not, eq_self_iff_true, not_true_eq_false, not_false_eq_true, sz0, sz2, sz3, sz4, appPop3, thawT, itE, sort3, seqX, itE1, rmv3, ltT3, as3, thawL, callS3, callY3, yend3, ifX3, weakE, weak1, sp_law_cell_at, sp_law_of_clan, sp_law_drawn_at, sp_law_visits, sp_law_first, sp_law_dealt, sp_is_late, sp_place_of_opened, sp_start_of_crowd, sp_pressing, sp_deal, sp_law_whole, sp_law_told, sp_law, dI, atI0, atI1, atI2, atI3, List.length_map]
    refine ⟨V, rfl, by omega, by omega, by omega, ok, fun d hd => ?_, fun row h1 h2 h3 => ?_⟩
    · exact hN _ ⟨.none, rfl, .inl ⟨rfl, d, hd⟩⟩
    · exact hN _ ⟨dI row, rfl, .inr ⟨row, rfl, h1, h2, h3⟩⟩
  rintro ρ ⟨due, rfl, hdue⟩
  refine seqX_step fun N hN => ?_
  simp (config := { maxSteps := 2000000 }) only [seq3, next3, set3, own3, ret3, ifS3, tt3, o3, v3, atV, asS, asB, asD, optP, asT, asLd, asL, atO, consP, nilP, asId, asI, k3, nw3, add3, int3, int0, eq3, ne3, eqOk, eqv3, isN3, notN3, isNone, ix3, ixD, cons3, nil3, call3, cb3, len3, lenD, min23, all3, if3, and3, or3, not3, andV3, notV3, tup3, lst3, listN, catN, isi3', L2.isD, gn3, gtup3, gcons3, gnil3, app3, frzS, frz, frz1, for3, itL, rg1, rg2, comp3, true3, cst3, start3, shs, Cl.d, Cl.dat, Cl.f, scal3, Option.map_some, Option.map_none, Option.isSome_some, Option.isSome_none, Option.join_some, Option.join_none, List.all_cons, List.all_nil, Bool.and_true, Bool.true_and, Bool.and_self, Bool.or_false, Bool.false_or, Bool.or_true, Bool.true_or, List.map_cons, List.map_nil, List.length_cons, List.length_nil, Nat.reduceAdd, Nat.reduceSub, Nat.sub_self, List.replicate, List.cons_append, List.nil_append, List.append_nil, List.getElem?_cons_zero, List.getElem?_cons_succ, List.set_cons_zero, List.set_cons_succ, Option.some.injEq, Cl.sh.injEq, Cl.ow.injEq, PyData.int.injEq, PyData.bool.injEq, PyData.str.injEq, PyData.list.injEq, PyData.tuple.injEq, List.cons.injEq, reduceCtorEq, and_assoc, and_true, true_and, and_self, exists_eq_left, exists_eq_left', exists_eq', exists_eq_right, exists_eq_right', exists_and_left, exists_const, exists_false, false_and, and_false, or_false, false_or, or_true, true_or, decide_true, decide_false, decide_eq_true_eq, Bool.not_true, Bool.not_false, Bool.false_eq_true, Bool.true_eq_false, if_true, if_false, ite_true, ite_false, Bool.not_eq_true', decide_eq_false_iff_not, eq_self_iff_true, not_true_eq_false, not_false_eq_true, sz0, sz2, sz3, sz4, appPop3, thawT, itE, sort3, seqX, itE1, rmv3, ltT3, as3, thawL, callS3, callY3, yend3, ifX3, weakE, weak1, sp_law_cell_at, sp_law_of_clan, sp_law_drawn_at, sp_law_visits, sp_law_first, sp_law_dealt, sp_is_late, sp_place_of_opened, sp_start_of_crowd, sp_pressing, sp_deal, sp_law_whole, sp_law_told, sp_law, dI, atI0, atI1, atI2, atI3, List.length_map]
  refine hN _ ?_
  clear hN N
  refine ifX_step fun N hN => ?_
  simp (config := { maxSteps := 2000000 }) only [seq3, next3, set3, own3, ret3, ifS3, tt3, o3, v3, atV, asS, asB, asD, optP, asT, asLd, asL, atO, consP, nilP, asId, asI, k3, nw3, add3, int3, int0, eq3, ne3, eqOk, eqv3, isN3, notN3, isNone, ix3, ixD, cons3, nil3, call3, cb3, len3, lenD, min23, all3, if3, and3, or3, not3, andV3, notV3, tup3, lst3, listN, catN, isi3', L2.isD, gn3, gtup3, gcons3, gnil3, app3, frzS, frz, frz1, for3, itL, rg1, rg2, comp3, true3, cst3, start3, shs, Cl.d, Cl.dat, Cl.f, scal3, Option.map_some, Option.map_none, Option.isSome_some, Option.isSome_none, Option.join_some, Option.join_none, List.all_cons, List.all_nil, Bool.and_true, Bool.true_and, Bool.and_self, Bool.or_false, Bool.false_or, Bool.or_true, Bool.true_or, List.map_cons, List.map_nil, List.length_cons, List.length_nil, Nat.reduceAdd, Nat.reduceSub, Nat.sub_self, List.replicate, List.cons_append, List.nil_append, List.append_nil, List.getElem?_cons_zero, List.getElem?_cons_succ, List.set_cons_zero, List.set_cons_succ, Option.some.injEq, Cl.sh.injEq, Cl.ow.injEq, PyData.int.injEq, PyData.bool.injEq, PyData.str.injEq, PyData.list.injEq, PyData.tuple.injEq, List.cons.injEq, reduceCtorEq, and_assoc, and_true, true_and, and_self, exists_eq_left, exists_eq_left', exists_eq', exists_eq_right, exists_eq_right', exists_and_left, exists_const, exists_false, false_and, and_false, or_false, false_or, or_true, true_or, decide_true, decide_false, decide_eq_true_eq, Bool.not_true, Bool.not_false, Bool.false_eq_true, Bool.true_eq_false, if_true, if_false, ite_true, ite_false, Bool.not_eq_true', decide_eq_false_iff_not, eq_self_iff_true, not_true_eq_false, not_false_eq_true, sz0, sz2, sz3, sz4, appPop3, thawT, itE, sort3, seqX, itE1, rmv3, ltT3, as3, thawL, callS3, callY3, yend3, ifX3, weakE, weak1, sp_law_cell_at, sp_law_of_clan, sp_law_drawn_at, sp_law_visits, sp_law_first, sp_law_dealt, sp_is_late, sp_place_of_opened, sp_start_of_crowd, sp_pressing, sp_deal, sp_law_whole, sp_law_told, sp_law, dI, atI0, atI1, atI2, atI3, List.length_map]
  refine ⟨V, rfl, by omega, by omega, by omega, ok, hdue, hN _ ?_⟩
  clear hN N
  have p1 := (plain_dWs V).shaped (by decide)
  have p2 := eqv_refl (plain_dWs V).1
  simp (config := { maxSteps := 2000000 }) only [seq3, next3, set3, own3, ret3, ifS3, tt3, o3, v3, atV, asS, asB, asD, optP, asT, asLd, asL, atO, consP, nilP, asId, asI, k3, nw3, add3, int3, int0, eq3, ne3, eqOk, eqv3, isN3, notN3, isNone, ix3, ixD, cons3, nil3, call3, cb3, len3, lenD, min23, all3, if3, and3, or3, not3, andV3, notV3, tup3, lst3, listN, catN, isi3', L2.isD, gn3, gtup3, gcons3, gnil3, app3, frzS, frz, frz1, for3, itL, rg1, rg2, comp3, true3, cst3, start3, shs, Cl.d, Cl.dat, Cl.f, scal3, Option.map_some, Option.map_none, Option.isSome_some, Option.isSome_none, Option.join_some, Option.join_none, List.all_cons, List.all_nil, Bool.and_true, Bool.true_and, Bool.and_self, Bool.or_false, Bool.false_or, Bool.or_true, Bool.true_or, List.map_cons, List.map_nil, List.length_cons, List.length_nil, Nat.reduceAdd, Nat.reduceSub, Nat.sub_self, List.replicate, List.cons_append, List.nil_append, List.append_nil, List.getElem?_cons_zero, List.getElem?_cons_succ, List.set_cons_zero, List.set_cons_succ, Option.some.injEq, Cl.sh.injEq, Cl.ow.injEq, PyData.int.injEq, PyData.bool.injEq, PyData.str.injEq, PyData.list.injEq, PyData.tuple.injEq, List.cons.injEq, reduceCtorEq, and_assoc, and_true, true_and, and_self, exists_eq_left, exists_eq_left', exists_eq', exists_eq_right, exists_eq_right', exists_and_left, exists_const, exists_false, false_and, and_false, or_false, false_or, or_true, true_or, decide_true, decide_false, decide_eq_true_eq, Bool.not_true, Bool.not_false, Bool.false_eq_true, Bool.true_eq_false, if_true, if_false, ite_true, ite_false, Bool.not_eq_true', decide_eq_false_iff_not, eq_self_iff_true, not_true_eq_false, not_false_eq_true, sz0, sz2, sz3, sz4, appPop3, thawT, itE, sort3, seqX, itE1, rmv3, ltT3, as3, thawL, callS3, callY3, yend3, ifX3, weakE, weak1, sp_law_cell_at, sp_law_of_clan, sp_law_drawn_at, sp_law_visits, sp_law_first, sp_law_dealt, sp_is_late, sp_place_of_opened, sp_start_of_crowd, sp_pressing, sp_deal, sp_law_whole, sp_law_told, sp_law, dI, atI0, atI1, atI2, atI3, p1, p2]
  exact ⟨V, rfl, by omega, by omega, by omega, ok, hdue, q⟩
end
set_option maxHeartbeats 4000000 in
theorem txt_mk {K : PySem.W.Frag} {h : Heap} {mg : Str → Option Value} (X : K.In h) (G : h.Ns mainGlobals mg)
    {cx0 tbx : Addr} {odx : Option Addr} {vsx : Array Value} {slx : Array (Option Value)} {flx : Str} {tx1 tx2 tx3 : Tok} {ix1 ix2 : Int} {bx : Bool}
    {f0 : Addr} {od0 an0 : Option Addr} {sl0 : Array (Option Value)} {oc0 kV0 dc0 pm0 cd0 ct0 : Value}
    {f1 : Addr} {od1 an1 : Option Addr} {sl1 : Array (Option Value)} {oc1 kV1 dc1 pm1 cd1 ct1 : Value}
    {f2 : Addr} {od2 an2 : Option Addr} {sl2 : Array (Option Value)} {oc2 kV2 dc2 pm2 cd2 ct2 : Value}
    {f3 : Addr} {od3 an3 : Option Addr} {sl3 : Array (Option Value)} {oc3 kV3 dc3 pm3 cd3 ct3 : Value}
    {f4 : Addr} {od4 an4 : Option Addr} {sl4 : Array (Option Value)} {oc4 kV4 dc4 pm4 cd4 ct4 : Value}
    {f5 : Addr} {od5 an5 : Option Addr} {sl5 : Array (Option Value)} {oc5 kV5 dc5 pm5 cd5 ct5 : Value}
    {f6 : Addr} {od6 an6 : Option Addr} {sl6 : Array (Option Value)} {oc6 kV6 dc6 pm6 cd6 ct6 : Value}
    {f7 : Addr} {od7 an7 : Option Addr} {sl7 : Array (Option Value)} {oc7 kV7 dc7 pm7 cd7 ct7 : Value}
    {f8 : Addr} {od8 an8 : Option Addr} {sl8 : Array (Option Value)} {oc8 kV8 dc8 pm8 cd8 ct8 : Value}
    {f9 : Addr} {od9 an9 : Option Addr} {sl9 : Array (Option Value)} {oc9 kV9 dc9 pm9 cd9 ct9 : Value}
    {f10 : Addr} {od10 an10 : Option Addr} {sl10 : Array (Option Value)} {oc10 kV10 dc10 pm10 ct10 : Value}
    {f11 : Addr} {od11 an11 : Option Addr} {sl11 : Array (Option Value)} {oc11 kV11 dc11 pm11 cd11 ct11 : Value}
    {f12 : Addr} {od12 an12 : Option Addr} {sl12 : Array (Option Value)} {oc12 kV12 dc12 pm12 cd12 ct12 : Value}
    {f13 : Addr} {od13 an13 : Option Addr} {sl13 : Array (Option Value)} {oc13 kV13 dc13 pm13 cd13 ct13 : Value}
    (a0 : PySem.W.nsIn K mainGlobals "_law_cell_at" = some (some (.ref f0)))
    (l0 : K.lookup f0 = some ⟨oc0, od0, .func (PySem.W.fnOf "_law_cell_at" "_law_cell_at" (defArgs s_law_cell_at) (defBody s_law_cell_at) (defScope s_law_cell_at) .none kV0 dc0 pm0 an0 cd0 ct0), sl0⟩)
    (c0 : PySem.W.codeIn K cd0 "_law_cell_at" = true)
    (k0 : PySem.W.keepIn K (.ref f0) = true)
    (a1 : PySem.W.nsIn K mainGlobals "_law_of_clan" = some (some (.ref f1)))
    (l1 : K.lookup f1 = some ⟨oc1, od1, .func (PySem.W.fnOf "_law_of_clan" "_law_of_clan" (defArgs s_law_of_clan) (defBody s_law_of_clan) (defScope s_law_of_clan) .none kV1 dc1 pm1 an1 cd1 ct1), sl1⟩)
    (c1 : PySem.W.codeIn K cd1 "_law_of_clan" = true)
    (k1 : PySem.W.keepIn K (.ref f1) = true)
    (a2 : PySem.W.nsIn K mainGlobals "_law_drawn_at" = some (some (.ref f2)))
    (l2 : K.lookup f2 = some ⟨oc2, od2, .func (PySem.W.fnOf "_law_drawn_at" "_law_drawn_at" (defArgs s_law_drawn_at) (defBody s_law_drawn_at) (defScope s_law_drawn_at) .none kV2 dc2 pm2 an2 cd2 ct2), sl2⟩)
    (c2 : PySem.W.codeIn K cd2 "_law_drawn_at" = true)
    (k2 : PySem.W.keepIn K (.ref f2) = true)
    (a3 : PySem.W.nsIn K mainGlobals "_law_visits" = some (some (.ref f3)))
    (l3 : K.lookup f3 = some ⟨oc3, od3, .func (PySem.W.fnOf "_law_visits" "_law_visits" (defArgs s_law_visits) (defBody s_law_visits) (defScope s_law_visits) .none kV3 dc3 pm3 an3 cd3 ct3), sl3⟩)
    (c3 : PySem.W.codeIn K cd3 "_law_visits" = true)
    (k3 : PySem.W.keepIn K (.ref f3) = true)
    (a4 : PySem.W.nsIn K mainGlobals "_law_first" = some (some (.ref f4)))
    (l4 : K.lookup f4 = some ⟨oc4, od4, .func (PySem.W.fnOf "_law_first" "_law_first" (defArgs s_law_first) (defBody s_law_first) (defScope s_law_first) .none kV4 dc4 pm4 an4 cd4 ct4), sl4⟩)
    (c4 : PySem.W.codeIn K cd4 "_law_first" = true)
    (k4 : PySem.W.keepIn K (.ref f4) = true)
    (a5 : PySem.W.nsIn K mainGlobals "_law_dealt" = some (some (.ref f5)))
    (l5 : K.lookup f5 = some ⟨oc5, od5, .func (PySem.W.fnOf "_law_dealt" "_law_dealt" (defArgs s_law_dealt) (defBody s_law_dealt) (defScope s_law_dealt) .none kV5 dc5 pm5 an5 cd5 ct5), sl5⟩)
    (c5 : PySem.W.codeIn K cd5 "_law_dealt" = true)
    (k5 : PySem.W.keepIn K (.ref f5) = true)
    (a6 : PySem.W.nsIn K mainGlobals "is_late" = some (some (.ref f6)))
    (l6 : K.lookup f6 = some ⟨oc6, od6, .func (PySem.W.fnOf "is_late" "is_late" (defArgs s_is_late) (defBody s_is_late) (defScope s_is_late) .none kV6 dc6 pm6 an6 cd6 ct6), sl6⟩)
    (c6 : PySem.W.codeIn K cd6 "is_late" = true)
    (k6 : PySem.W.keepIn K (.ref f6) = true)
    (a7 : PySem.W.nsIn K mainGlobals "place_of_opened" = some (some (.ref f7)))
    (l7 : K.lookup f7 = some ⟨oc7, od7, .func (PySem.W.fnOf "place_of_opened" "place_of_opened" (defArgs s_place_of_opened) (defBody s_place_of_opened) (defScope s_place_of_opened) .none kV7 dc7 pm7 an7 cd7 ct7), sl7⟩)
    (c7 : PySem.W.codeIn K cd7 "place_of_opened" = true)
    (k7 : PySem.W.keepIn K (.ref f7) = true)
    (a8 : PySem.W.nsIn K mainGlobals "start_of_crowd" = some (some (.ref f8)))
    (l8 : K.lookup f8 = some ⟨oc8, od8, .func (PySem.W.fnOf "start_of_crowd" "start_of_crowd" (defArgs s_start_of_crowd) (defBody s_start_of_crowd) (defScope s_start_of_crowd) .none kV8 dc8 pm8 an8 cd8 ct8), sl8⟩)
    (c8 : PySem.W.codeIn K cd8 "start_of_crowd" = true)
    (k8 : PySem.W.keepIn K (.ref f8) = true)
    (a9 : PySem.W.nsIn K mainGlobals "pressing" = some (some (.ref f9)))
    (l9 : K.lookup f9 = some ⟨oc9, od9, .func (PySem.W.fnOf "pressing" "pressing" (defArgs s_pressing) (defBody s_pressing) (defScope s_pressing) .none kV9 dc9 pm9 an9 cd9 ct9), sl9⟩)
    (c9 : PySem.W.codeIn K cd9 "pressing" = true)
    (k9 : PySem.W.keepIn K (.ref f9) = true)
    (a10 : PySem.W.nsIn K mainGlobals "deal" = some (some (.ref f10)))
    (l10 : K.lookup f10 = some ⟨oc10, od10, .func (PySem.W.fnOf "deal" "deal" (defArgs s_deal) (defBody s_deal) (defScope s_deal) .none kV10 dc10 pm10 an10 (.ref cx0) ct10), sl10⟩)
    (c10 : PySem.W.codeIn K (.ref cx0) "deal" = true)
    (k10 : PySem.W.keepIn K (.ref f10) = true)
    (a11 : PySem.W.nsIn K mainGlobals "_law_whole" = some (some (.ref f11)))
    (l11 : K.lookup f11 = some ⟨oc11, od11, .func (PySem.W.fnOf "_law_whole" "_law_whole" (defArgs s_law_whole) (defBody s_law_whole) (defScope s_law_whole) .none kV11 dc11 pm11 an11 cd11 ct11), sl11⟩)
    (c11 : PySem.W.codeIn K cd11 "_law_whole" = true)
    (k11 : PySem.W.keepIn K (.ref f11) = true)
    (a12 : PySem.W.nsIn K mainGlobals "_law_told" = some (some (.ref f12)))
    (l12 : K.lookup f12 = some ⟨oc12, od12, .func (PySem.W.fnOf "_law_told" "_law_told" (defArgs s_law_told) (defBody s_law_told) (defScope s_law_told) .none kV12 dc12 pm12 an12 cd12 ct12), sl12⟩)
    (c12 : PySem.W.codeIn K cd12 "_law_told" = true)
    (k12 : PySem.W.keepIn K (.ref f12) = true)
    (a13 : PySem.W.nsIn K mainGlobals "law" = some (some (.ref f13)))
    (l13 : K.lookup f13 = some ⟨oc13, od13, .func (PySem.W.fnOf "law" "law" (defArgs s_law) (defBody s_law) (defScope s_law) .none kV13 dc13 pm13 an13 cd13 ct13), sl13⟩)
    (c13 : PySem.W.codeIn K cd13 "law" = true)
    (k13 : PySem.W.keepIn K (.ref f13) = true)
    (q1 : K.lookup cx0 = some ⟨.type "code", odx, .fields vsx, slx⟩)
    (q2 : vsx[11]? = some (.ref tbx))
    (q3 : vsx.getD 11 .none = .ref tbx)
    (q4 : vsx.getD 18 .none = .str flx tx1)
    (q5 : vsx.getD 7 .none = .int ix1 tx2)
    (q6 : vsx.getD 9 .none = .bool bx)
    (q7 : vsx.getD 10 .none = .int ix2 tx3)
    (q8 : cx0 ≠ tbx)
    (q9 : K.lookup tbx = none)
    (n_all : PySem.W.nsIn K mainGlobals "all" = some none)
    (n_bool : PySem.W.nsIn K mainGlobals "bool" = some none)
    (n_enumerate : PySem.W.nsIn K mainGlobals "enumerate" = some none)
    (n_int : PySem.W.nsIn K mainGlobals "int" = some none)
    (n_isinstance : PySem.W.nsIn K mainGlobals "isinstance" = some none)
    (n_len : PySem.W.nsIn K mainGlobals "len" = some none)
    (n_list : PySem.W.nsIn K mainGlobals "list" = some none)
    (n_min : PySem.W.nsIn K mainGlobals "min" = some none)
    (n_range : PySem.W.nsIn K mainGlobals "range" = some none)
    (n_sorted : PySem.W.nsIn K mainGlobals "sorted" = some none)
    (n_tuple : PySem.W.nsIn K mainGlobals "tuple" = some none) : ∃ c : Law.Cl, Txt c K mg :=
  ⟨⟨0, cx0, tbx⟩, {
    d_law_cell_at := ⟨f0, _, fun_mk (st := s_law_cell_at) l0 c0 k0, PySem.W.mg_of X G a0⟩,
    d_law_of_clan := ⟨f1, _, fun_mk (st := s_law_of_clan) l1 c1 k1, PySem.W.mg_of X G a1⟩,
    d_law_drawn_at := ⟨f2, _, fun_mk (st := s_law_drawn_at) l2 c2 k2, PySem.W.mg_of X G a2⟩,
    d_law_visits := ⟨f3, _, fun_mk (st := s_law_visits) l3 c3 k3, PySem.W.mg_of X G a3⟩,
    d_law_first := ⟨f4, _, fun_mk (st := s_law_first) l4 c4 k4, PySem.W.mg_of X G a4⟩,
    d_law_dealt := ⟨f5, _, fun_mk (st := s_law_dealt) l5 c5 k5, PySem.W.mg_of X G a5⟩,
    d_is_late := ⟨f6, _, fun_mk (st := s_is_late) l6 c6 k6, PySem.W.mg_of X G a6⟩,
    d_place_of_opened := ⟨f7, _, fun_mk (st := s_place_of_opened) l7 c7 k7, PySem.W.mg_of X G a7⟩,
    d_start_of_crowd := ⟨f8, _, fun_mk (st := s_start_of_crowd) l8 c8 k8, PySem.W.mg_of X G a8⟩,
    d_pressing := ⟨f9, _, fun_mk (st := s_pressing) l9 c9 k9, PySem.W.mg_of X G a9⟩,
    d_deal := ⟨f10, _, fun_mk (st := s_deal) l10 c10 k10, PySem.W.mg_of X G a10⟩,
    d_law_whole := ⟨f11, _, fun_mk (st := s_law_whole) l11 c11 k11, PySem.W.mg_of X G a11⟩,
    d_law_told := ⟨f12, _, fun_mk (st := s_law_told) l12 c12 k12, PySem.W.mg_of X G a12⟩,
    d_law := ⟨f13, _, fun_mk (st := s_law) l13 c13 k13, PySem.W.mg_of X G a13⟩,
    x_deal := ⟨f10, _, fun_mk (st := s_deal) l10 c10 k10, PySem.W.mg_of X G a10, rfl⟩,
    hdC := fun h kh => ⟨_, vsx, flx, tx1, ix1, tx2, bx, ix2, tx3, kh _ _ q1, rfl, rfl, q2, q3, q4, q5, q6, q7, q8⟩,
    tab := tabIn_of a10 l10 rfl q1 q2,
    nop := q9,
    n_all := PySem.W.mg_none_of X G n_all,
    n_bool := PySem.W.mg_none_of X G n_bool,
    n_enumerate := PySem.W.mg_none_of X G n_enumerate,
    n_int := PySem.W.mg_none_of X G n_int,
    n_isinstance := PySem.W.mg_none_of X G n_isinstance,
    n_len := PySem.W.mg_none_of X G n_len,
    n_list := PySem.W.mg_none_of X G n_list,
    n_min := PySem.W.mg_none_of X G n_min,
    n_range := PySem.W.mg_none_of X G n_range,
    n_sorted := PySem.W.mg_none_of X G n_sorted,
    n_tuple := PySem.W.mg_none_of X G n_tuple }⟩
section
variable {P : Program} {w : World} {c : Law.Cl} {K : PySem.W.Frag} {mg : Str → Option Value} {base : Heap}
theorem al_law_cell_at (T : Txt c K mg) : Df3 P w K mg base 1 "_law_cell_at" ["_law_script", "_law_k"] sp_law_cell_at := ok_law_cell_at T 
theorem al_law_of_clan (T : Txt c K mg) : Df3 P w K mg base 1 "_law_of_clan" ["_law_cell", "_law_clan", "_law_turns"] sp_law_of_clan := ok_law_of_clan T 
theorem al_law_drawn_at (T : Txt c K mg) : Df3 P w K mg base 2 "_law_drawn_at" ["_law_script", "_law_k"] sp_law_drawn_at := ok_law_drawn_at T (al_law_cell_at T)
theorem al_law_visits (T : Txt c K mg) : Df3 P w K mg base 3 "_law_visits" ["_law_script", "_law_turns"] sp_law_visits := ok_law_visits T (al_law_cell_at T) (al_law_of_clan T) (al_law_drawn_at T)
theorem al_law_first (T : Txt c K mg) : Df3 P w K mg base 1 "_law_first" ["_law_waiting", "_law_turn"] sp_law_first := ok_law_first T 
theorem al_law_dealt (T : Txt c K mg) : Df3 P w K mg base 2 "_law_dealt" ["_law_turns", "_law_visits_here"] sp_law_dealt := ok_law_dealt T (al_law_first T)
theorem al_is_late (T : Txt c K mg) : Df3 P w K mg base 1 "is_late" ["waiting", "gone"] sp_is_late := ok_is_late T 
theorem al_place_of_opened (T : Txt c K mg) : Df3 P w K mg base 1 "place_of_opened" ["waiting", "turn"] sp_place_of_opened := ok_place_of_opened T 
theorem al_start_of_crowd (T : Txt c K mg) : Df3 P w K mg base 1 "start_of_crowd" ["given"] sp_start_of_crowd := ok_start_of_crowd T 
theorem al_pressing (T : Txt c K mg) : Df3 P w K mg base 1 "pressing" ["visit", "turns"] sp_pressing := ok_pressing T 
theorem al_deal (T : Txt c K mg) (hB : BMod mg base) (kb : K.In base) (b : Bool) : DfXS b P w K mg base c.tb lamP lamQ 5 "deal" ["turns", "windows"] sp_deal := ok_deal T hB kb (al_is_late T) (al_place_of_opened T) (al_start_of_crowd T) (al_pressing T) b
theorem al_law_whole (T : Txt c K mg) : Df3 P w K mg base 1 "_law_whole" ["_law_found"] sp_law_whole := ok_law_whole T 
theorem al_law_told (T : Txt c K mg) (hB : BMod mg base) (kb : K.In base) (b : Bool) : DfXS b P w K mg base c.tb lamP lamQ 6 "_law_told" ["_law_turns", "_law_handed", "_law_due"] sp_law_told := ok_law_told T hB kb (al_deal T hB kb) (al_law_whole T) b
theorem al_law (T : Txt c K mg) (hB : BMod mg base) (kb : K.In base) {f : Addr} {fd : FuncData} (F : Fun K "law" "law" s_law f fd) : FnOk P w K mg base (CXR P w) 7 f fd ["_law_script"] (spXS true K c.tb lamP lamQ sp_law) := fn_law T hB kb (al_law_visits T) (al_law_dealt T) (al_law_told T hB kb) (al_law_cell_at T) F
end
theorem walk {l : PySem.W.OpenLaw} {q : Program} {loose : List Str} {XP : (Str → Option Value) → Heap → Prop} {YP : World → Heap → Prop} {d dd : DefRec} {K : Params → PySem.W.Frag} (hn : l.most = some 63) (hdf : d.params.defaults = []) (hdn : d.name = "law")
    (hrec : (recsOf q).find? (fun e => e.name == ("deal" : Str)) = some dd) (hY : ∀ (w : World) (h : Heap), YP w h → (K w.params).In h)
    (F : ∀ (w : World) (mg : Str → Option Value) (h : Heap), (K w.params).In h → h.Ns mainGlobals mg → ∃ c, Txt c (K w.params) mg) :
    PySem.W.WalkO q loose XP YP l.row.toRowW d [] (fun f vs => PySem.call f vs) := by
  refine L3.walk_ofXS (lp := lamP) (qn := lamQ) (n := 63) (k := 7) (x := "_law_script") (sp := sp_law) hn (by decide) hdf ⟨rfl, by decide, by decide⟩ hY hrec (fun w mg fa h KX G hmg => ?_) (fun ns hl Q hQ => ⟨ns, rfl, hl, hQ _⟩)
  obtain ⟨c, T⟩ := F w mg h KX G
  obtain ⟨f, fd, Fn, hm⟩ := T.d_law
  rw [hdn, hm] at hmg
  cases hmg
  have Fn' := Fn
  obtain ⟨oc, od, kV, doc, pm, an, cdv, ct, osl, rfl, lk, hcd⟩ := Fn.ex
  exact ⟨_, c.c0, c.tb, fun s u => .of_eq rfl, T.tab, T.nop, fun base kb hB => al_law T hB kb Fn'⟩
end Law
theorem PySem.W.Fast.te17514299700759285772 : True := trivial
noncomputable abbrev PySem.W.Fast.tw11234778139320722352 : PySem.Program := PySem.Challenge.pw_chairclans_k14_dealt_due_first
theorem PySem.W.Fast.te11234778139320722352 : PySem.Challenge.pw_chairclans_k14_dealt_due_first = PySem.W.Fast.tw11234778139320722352 := rfl
open PySem PySem.W PyProof.Rows
set_option maxRecDepth 100000 in
set_option maxHeartbeats 0 in
theorem PySem.Challenge.cw_chairclans_k14_dealt_due_first_holds : PySem.Challenge.rw_chairclans_k14_dealt_due_first.Holds := by
  w_on; o_law; k_head; (case hw => w_witness2)
  k_fill
  refine Law.walk (l := PySem.Challenge.rw_chairclans_k14_dealt_due_first) rfl rfl rfl rfl (fun w h Y => PySem.W.km_in_of Y) ?F
  case F =>
    intro w mg h KX G
    refine' Law.txt_mk KX G ?a0 ?l0 ?c0 ?k0 ?a1 ?l1 ?c1 ?k1 ?a2 ?l2 ?c2 ?k2 ?a3 ?l3 ?c3 ?k3 ?a4 ?l4 ?c4 ?k4 ?a5 ?l5 ?c5 ?k5 ?a6 ?l6 ?c6 ?k6 ?a7 ?l7 ?c7 ?k7 ?a8 ?l8 ?c8 ?k8 ?a9 ?l9 ?c9 ?k9 ?a10 ?l10 ?c10 ?k10 ?a11 ?l11 ?c11 ?k11 ?a12 ?l12 ?c12 ?k12 ?a13 ?l13 ?c13 ?k13 ?q1 ?q2 ?q3 ?q4 ?q5 ?q6 ?q7 ?q8 ?q9 ?n_all ?n_bool ?n_enumerate ?n_int ?n_isinstance ?n_len ?n_list ?n_min ?n_range ?n_sorted ?n_tuple
    (case a0 => k_is)
    (case l0 => k_is)
    (case c0 => k_is)
    (case k0 => k_is)
    (case a1 => k_is)
    (case l1 => k_is)
    (case c1 => k_is)
    (case k1 => k_is)
    (case a2 => k_is)
    (case l2 => k_is)
    (case c2 => k_is)
    (case k2 => k_is)
    (case a3 => k_is)
    (case l3 => k_is)
    (case c3 => k_is)
    (case k3 => k_is)
    (case a4 => k_is)
    (case l4 => k_is)
    (case c4 => k_is)
    (case k4 => k_is)
    (case a5 => k_is)
    (case l5 => k_is)
    (case c5 => k_is)
    (case k5 => k_is)
    (case a6 => k_is)
    (case l6 => k_is)
    (case c6 => k_is)
    (case k6 => k_is)
    (case a7 => k_is)
    (case l7 => k_is)
    (case c7 => k_is)
    (case k7 => k_is)
    (case a8 => k_is)
    (case l8 => k_is)
    (case c8 => k_is)
    (case k8 => k_is)
    (case a9 => k_is)
    (case l9 => k_is)
    (case c9 => k_is)
    (case k9 => k_is)
    (case a10 => k_is)
    (case l10 => k_is)
    (case c10 => k_is)
    (case k10 => k_is)
    (case a11 => k_is)
    (case l11 => k_is)
    (case c11 => k_is)
    (case k11 => k_is)
    (case a12 => k_is)
    (case l12 => k_is)
    (case c12 => k_is)
    (case k12 => k_is)
    (case a13 => k_is)
    (case l13 => k_is)
    (case c13 => k_is)
    (case k13 => k_is)
    (case q1 => k_is)
    (case q2 => rfl)
    (case q3 => rfl)
    (case q4 => rfl)
    (case q5 => rfl)
    (case q6 => rfl)
    (case q7 => rfl)
    (case q8 => decide)
    (case q9 => kernel_rfl)
    (case n_all => k_is)
    (case n_bool => k_is)
    (case n_enumerate => k_is)
    (case n_int => k_is)
    (case n_isinstance => k_is)
    (case n_len => k_is)
    (case n_list => k_is)
    (case n_min => k_is)
    (case n_range => k_is)
    (case n_sorted => k_is)
    (case n_tuple => k_is)
